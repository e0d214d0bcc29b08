"""The interface: each name is defined in its file, each listed method in its class."""

import importlib
import inspect

from tests.support import Case

RATIO = ["__add__", "__sub__", "__mul__", "__neg__", "__abs__", "__eq__", "__str__", "over", "below", "sign", "is_zero",
         "read"]
VECTOR = ["__len__", "__getitem__", "__add__", "__sub__", "__mul__", "__rmul__", "__neg__", "__eq__", "__str__", "dot",
          "is_zero", "unit", "zero", "of", "read"]
MATRIX = ["__getitem__", "__add__", "__sub__", "__mul__", "__rmul__", "__pow__", "__neg__", "__eq__", "__str__", "row",
          "column", "trace", "transpose", "is_zero", "is_symmetric", "identity", "zero", "diagonal", "columns", "read"]
MEASURE = ["__add__", "__mul__", "__rmul__", "__eq__", "dot", "norm", "adjoint", "plain", "weights"]
POLY = ["__len__", "__getitem__", "__add__", "__sub__", "__mul__", "__rmul__", "__floordiv__", "__pow__", "__neg__",
        "__eq__", "__call__", "__str__", "remainder", "compose", "monic", "degree", "is_zero", "x", "constant", "of",
        "read"]

CLASSES = {
    "ratios": {"Ratio": RATIO},
    "vectors": {"Vector": VECTOR},
    "matrices": {"Matrix": MATRIX},
    "elimination": {"Solution": []},
    "measures": {"Measure": MEASURE},
    "polys": {"Poly": POLY},
    "walks": {"Walk": ["__len__", "__iter__", "hessenberg", "band"]},
    "reaches": {"Reach": ["holds"]},
    "memories": {"Memory": ["holds"]},
    "answers": {"AdjointAnswer": ["holds"], "TraceDiffers": ["holds"], "NoReturn": ["holds"], "TraceBar": ["holds"],
                "Granted": ["holds"]},
    "leastmemory": {"LeastMemory": []},
    "sameness": {"SameSpaces": [], "OtherSpaces": []},
    "tasks": {"Task": ["__str__", "read"]},
    "steps": {"Step": [], "EnergyStep": []},
    "solvers": {"Solver": [], "LeastSolver": ["steps"], "OrthogonalSolver": ["steps"]},
    "energy": {"EnergySolver": ["steps"]},
    "states": {"State": []},
    "courses": {"Course": []},
    "twosided": {"TwoSided": ["slants", "answer_at"]},
    "changes": {"Back": ["lead"], "Change": []},
    "history": {"History": ["__len__", "__iter__", "apply", "undo", "present", "origin", "lead"]},
    "desk": {"Desk": ["run", "present", "names", "lines_run"]},
}
ARGUMENTS = {
    "walks": {"Walk": ["a", "measure", "start"], "Walk.hessenberg": ["k"]},
    "reaches": {"Reach": ["least", "poly", "start"], "Reach.holds": ["a", "y"]},
    "memories": {"Memory": ["least", "poly", "start"], "Memory.holds": ["a", "measure"]},
    "answers": {"AdjointAnswer": ["granted"], "TraceDiffers": ["power"], "NoReturn": [], "TraceBar": ["witness"],
                "Granted": ["measure"], "AdjointAnswer.holds": ["a", "poly"], "TraceDiffers.holds": ["a", "poly"],
                "NoReturn.holds": ["a", "poly"], "TraceBar.holds": ["a", "poly"], "Granted.holds": ["a", "poly"]},
    "leastmemory": {"LeastMemory": ["least", "measure", "straight", "skew", "quadratic"]},
    "sameness": {"SameSpaces": ["factor", "offset"], "OtherSpaces": ["start"]},
    "tasks": {"Task": ["matrix", "side", "measure"], "Task.read": ["text"]},
    "steps": {"Step": ["count", "answer", "residual", "square"],
              "EnergyStep": ["count", "answer", "residual", "square", "energy", "error"]},
    "solvers": {"Solver": ["task"], "LeastSolver": ["task"], "OrthogonalSolver": ["task"], "LeastSolver.steps": [],
                "OrthogonalSolver.steps": []},
    "energy": {"EnergySolver": ["task"], "EnergySolver.steps": []},
    "states": {"State": ["count", "answer", "residual", "kept"]},
    "courses": {"Course": ["polys", "curve"]},
    "twosided": {"TwoSided": ["matrix", "side", "partner"], "TwoSided.slants": ["k"], "TwoSided.answer_at": ["k"]},
    "changes": {"Back": ["matrix", "vector"], "Back.lead": ["x"], "Change": ["name", "task", "back"]},
    "history": {"History": ["task"], "History.apply": ["name", "argument"], "History.undo": [], "History.present": [],
                "History.origin": [], "History.lead": ["x"]},
    "desk": {"Desk": [], "Desk.run": ["text"], "Desk.present": [], "Desk.names": []},
}
FUNCTIONS = {
    "elimination": {"solve": ["matrix", "vector"], "rank": ["matrix"]},
    "inverses": {"determinant": ["matrix"], "inverse": ["matrix"]},
    "polys": {"common": ["p", "q"]},
    "spaces": {"powers": ["a", "v", "count"], "annihilator": ["a", "v"], "grade": ["a", "v"]},
    "cyclic": {"plain_start": ["size", "t"], "minimal_polynomial": ["a"], "base_start": ["a"],
               "as_polynomial": ["a", "y"]},
    "rowmaking": {"next_row": ["a", "measure", "rows"], "walk_rows": ["a", "measure", "start"],
                  "forgetful_rows": ["a", "measure", "start", "keep"]},
    "grams": {"gram": ["measure", "vectors"], "gram_determinants": ["a", "measure", "start"]},
    "reaches": {"reach": ["a", "y"]},
    "memories": {"memory": ["a", "measure"]},
    "answers": {"trace_table": ["a", "poly"]},
    "adjoints": {"measure_with_adjoint": ["a", "poly"], "skew_poly": ["a"]},
    "factors": {"adjoint_factor": ["a", "first", "second"], "measure_times": ["a", "measure", "poly"]},
    "leastmemory": {"least_memory": ["a"], "only_quadratic": ["a"]},
    "sameness": {"same_spaces": ["a", "c"], "same_walks": ["a", "first", "second"]},
    "states": {"first_state": ["task"], "advance": ["task", "state", "keep", "way"]},
    "restarts": {"restart": ["task", "every", "rounds"], "moving_side": ["a", "measure"]},
    "courses": {"course_of": ["task"], "task_of": ["course"]},
    "twosided": {"moments": ["matrix", "side", "partner", "count"]},
    "halting": {"halting_side": ["a", "partner"]},
    "changes": {"shift": ["task", "ratio"], "scale": ["task", "ratio"], "turn": ["task", "matrix"],
                "remeasure": ["task", "measure"], "guess": ["task", "vector"], "ahead": ["task", "poly"],
                "normal": ["task"], "flip": ["task"]},
}


class InterfaceTest(Case):
    def test_classes_and_their_methods(self):
        for module, classes in CLASSES.items():
            for name, methods in classes.items():
                found = getattr(importlib.import_module(f"lastrows.{module}"), name)
                self.assertEqual(found.__module__, f"lastrows.{module}")
                self.assertEqual([one for one in ["__init__", *methods] if one not in vars(found)], [], name)

    def test_arguments_of_classes_and_methods(self):
        for module, names in ARGUMENTS.items():
            for name, arguments in names.items():
                found = getattr(importlib.import_module(f"lastrows.{module}"), name.partition(".")[0])
                if "." in name:
                    found = vars(found)[name.partition(".")[2]]
                known = [one for one in inspect.signature(found).parameters if one != "self"]
                self.assertEqual(known, arguments, name)

    def test_functions_and_their_arguments(self):
        for module, functions in FUNCTIONS.items():
            for name, arguments in functions.items():
                found = getattr(importlib.import_module(f"lastrows.{module}"), name)
                self.assertEqual(found.__module__, f"lastrows.{module}")
                self.assertEqual(list(inspect.signature(found).parameters), arguments, name)
