"""The interface: each name is defined in its file, each listed method in its class."""

import importlib
import inspect

from tests.support import Case

RATIO = ["__add__", "__sub__", "__mul__", "__neg__", "__abs__", "__eq__", "__str__", "over", "below", "sign", "is_zero",
         "read"]
VECTOR = ["__len__", "__getitem__", "__add__", "__sub__", "__mul__", "__rmul__", "__neg__", "__eq__", "__str__", "dot",
          "is_zero", "unit", "zero", "of", "read"]
MATRIX = ["__getitem__", "__add__", "__sub__", "__mul__", "__rmul__", "__pow__", "__neg__", "__eq__", "__str__", "row",
          "column", "trace", "transpose", "is_zero", "is_symmetric", "identity", "zero", "diagonal", "columns", "read"]
MEASURE = ["__add__", "__mul__", "__rmul__", "__eq__", "dot", "norm", "adjoint", "plain", "weights"]
POLY = ["__len__", "__getitem__", "__add__", "__sub__", "__mul__", "__rmul__", "__floordiv__", "__pow__", "__neg__",
        "__eq__", "__call__", "__str__", "remainder", "compose", "monic", "degree", "is_zero", "x", "constant", "of",
        "read"]

CLASSES = {
    "ratios": {"Ratio": RATIO},
    "vectors": {"Vector": VECTOR},
    "matrices": {"Matrix": MATRIX},
    "elimination": {"Solution": []},
    "measures": {"Measure": MEASURE},
    "polys": {"Poly": POLY},
}
FUNCTIONS = {
    "elimination": {"solve": ["matrix", "vector"], "rank": ["matrix"]},
    "inverses": {"determinant": ["matrix"], "inverse": ["matrix"]},
    "polys": {"common": ["p", "q"]},
    "spaces": {"powers": ["a", "v", "count"], "annihilator": ["a", "v"], "grade": ["a", "v"]},
    "cyclic": {"plain_start": ["size", "t"], "minimal_polynomial": ["a"], "base_start": ["a"],
               "as_polynomial": ["a", "y"]},
}


class InterfaceTest(Case):
    def test_classes_and_their_methods(self):
        for module, classes in CLASSES.items():
            for name, methods in classes.items():
                found = getattr(importlib.import_module(f"lastrows.{module}"), name)
                self.assertEqual(found.__module__, f"lastrows.{module}")
                self.assertEqual([one for one in ["__init__", *methods] if one not in vars(found)], [], name)

    def test_functions_and_their_arguments(self):
        for module, functions in FUNCTIONS.items():
            for name, arguments in functions.items():
                found = getattr(importlib.import_module(f"lastrows.{module}"), name)
                self.assertEqual(found.__module__, f"lastrows.{module}")
                self.assertEqual(list(inspect.signature(found).parameters), arguments, name)
