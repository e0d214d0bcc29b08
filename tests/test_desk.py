"""Points 52, 53 and 54: how the desk runs scripts, reads lines and changes its state."""

from lastrows.desk import Desk
from lastrows.errors import (BadCommand, BadNumber, BadText, BadWay, LineRefused, NoTask, NothingToUndo, NotPositive,
                             NotSquare, NotSymmetric, RaggedRows, Singular, SizeMismatch, SizeOutOfRange, TooLong,
                             ZeroScale)
from lastrows.history import History
from lastrows.matrices import Matrix
from lastrows.measures import Measure
from lastrows.polys import Poly
from lastrows.ratios import Ratio
from lastrows.tasks import Task
from lastrows.vectors import Vector
from tests.support import Case, described

TASK = "2 1; 1 3 | 1 0 | plain"
WITH_ARGUMENT = {"task": TASK, "shift": "-1", "scale": "2/3", "turn": "1 1; 0 2", "remeasure": "1 0; 0 2",
                 "guess": "1/2 5/2", "ahead": "1 1", "adjoint": "0 1", "solve": "least", "short": "2", "forget": "2",
                 "restart": "1 1", "partner": "1 0", "halt": "1 0"}
ALONE = ["normal", "flip", "undo", "show", "walk", "memory", "least", "back"]


def desk_with(*lines):
    desk = Desk()
    desk.run("\n".join(lines))
    return desk


def told(desk):
    """Returns all that a desk tells of its state."""
    try:
        present = desk.present()
    except NoTask:
        return None, desk.names(), desk.lines_run
    return described(present), desk.names(), desk.lines_run


class DeskCase(Case):
    def assert_line(self, desk, text, line, error, attributes=None):
        """Checks that a script is refused at a line for an error, two times alike, and that the desk stays as it was."""
        before, seen = told(desk), []
        for _ in range(2):
            with self.assertRaises(LineRefused) as context:
                desk.run(text)
            refused = context.exception
            cause = refused.__cause__
            self.assertIs(type(cause), error, f"{text!r}: {cause!r}")
            self.assertEqual(vars(refused), {"line": line, "word": cause.word})
            if attributes is not None:
                self.assertEqual(vars(cause), {**attributes, "word": cause.word})
            self.assertEqual(told(desk), before)
            seen.append(described(cause))
        self.assertEqual(seen[0], seen[1])


class RunTest(DeskCase):
    def test_the_example_of_the_document(self):
        found = Desk().run("task 2 1; 1 3 | 1 0 | plain\nwalk\nshift -1\nsolve orthogonal")
        self.assertEqual(found, ["task 2 1; 1 3 | 1 0 | plain", "row 0: 1 0 | 1 | 2", "row 1: 0 1 | 1 | 1 3",
                                 "grade 2 band 1", "task 1 1; 1 2 | 1 0 | plain", "step 0: 0 0 | 1 0 | 1",
                                 "step 1: 1 0 | 0 -1 | 1", "step 2: 2 -1 | 0 0 | 0"])

    def test_a_new_desk(self):
        desk = Desk()
        self.assertEqual((desk.names(), desk.lines_run), ((), 0))
        self.assert_refused(NoTask, {}, desk.present)
        self.assertIsInstance(vars(Desk)["lines_run"], property)
        with self.assertRaises(AttributeError):
            desk.lines_run = 5

    def test_lines_that_do_nothing(self):
        desk = Desk()
        for text in ("", "\n", "\n\n\n", "#", "# task", "#task 1\n\n#\n", "##"):
            found = desk.run(text)
            self.assertEqual(found, [])
            self.assertIs(type(found), list)
        self.assertEqual(desk.lines_run, 0)
        self.assertEqual(desk.run(f"\n# one\ntask {TASK}\n\nshow\n#show\n"), [f"task {TASK}"] * 2)
        self.assertEqual(desk.lines_run, 2)

    def test_only_empty_lines_and_remarks_do_nothing(self):
        for line in (" ", "  ", " #", " # remark", "show #", "show # remark", "task#"):
            self.assert_line(Desk(), line, 1, BadCommand, {"text": line})

    def test_a_list_of_its_own(self):
        desk = desk_with(f"task {TASK}")
        first = desk.run("show\nwalk")
        wanted = list(first)
        first.clear()
        second = desk.run("show\nwalk")
        self.assertEqual(second, wanted)
        self.assertIsNot(desk.run(""), desk.run(""))

    def test_one_run_after_the_other(self):
        desk = Desk()
        self.assertEqual(desk.run(f"task {TASK}"), [f"task {TASK}"])
        self.assertEqual(desk.run("shift 1"), ["task 3 1; 1 4 | 1 0 | plain"])
        self.assertEqual(desk.run("undo"), [f"task {TASK}"])
        self.assertEqual(desk.run("show\nshow"), [f"task {TASK}"] * 2)
        self.assertEqual(desk.lines_run, 5)
        self.assertEqual(desk.names(), ())

    def test_two_desks(self):
        one, two = desk_with(f"task {TASK}"), desk_with(f"task {TASK}", "flip")
        one.run("scale 2\nnormal")
        self.assertEqual((one.names(), two.names()), (("scale", "normal"), ("flip",)))
        self.assertEqual((one.lines_run, two.lines_run), (3, 2))

    def test_names_and_present(self):
        desk = Desk()
        for name, text in WITH_ARGUMENT.items():
            desk.run(f"{name} {text}")
        desk.run("normal\nflip")
        self.assertEqual(desk.names(), ("shift", "scale", "turn", "remeasure", "guess", "ahead", "normal", "flip"))
        self.assertIs(type(desk.names()), tuple)
        self.assertIs(type(desk.present()), Task)
        self.assertEqual(desk.run("show"), [f"task {desk.present()}"])
        self.assertEqual(desk.lines_run, 17)
        desk.run("undo\nundo")
        self.assertEqual(desk.names(), ("shift", "scale", "turn", "remeasure", "guess", "ahead"))
        # A new task has a new history.
        desk.run(f"task {TASK}")
        self.assertEqual(desk.names(), ())
        self.assert_line(desk, "undo", 1, NothingToUndo, {})

    def test_the_lines_run_are_counted_once_for_each_line(self):
        desk = Desk()
        desk.run(f"task {TASK}\nwalk")
        self.assertEqual(desk.lines_run, 2)
        desk.run("memory\nleast\n\nsolve energy\nback\nshow\n# no\nshift 1\nundo")
        self.assertEqual(desk.lines_run, 9)


class RefusedTest(DeskCase):
    def test_line_numbers(self):
        good, bad = f"task {TASK}", "shift x"
        for lines, line in [([good, bad], 2), (["", good, "# one", bad], 4), (["#", "", "", good, "", bad], 6),
                            ([good, "", "show", "", bad, bad], 5), ([good, bad, "", "#"], 2)]:
            self.assert_line(Desk(), "\n".join(lines), line, BadNumber, {"text": "x"})
        self.assert_line(Desk(), "\n".join(["", bad, good]), 2, NoTask, {})

    def test_the_state_before_a_refused_run(self):
        desk = desk_with(f"task {TASK}", "scale 2", "normal")
        present = described(desk.present())
        for lines in (["flip"], ["undo"], ["undo", "undo"], ["undo", "shift 1", "flip"], ["task 1 0; 0 1 | 1 1 | plain"],
                      ["task 1 0; 0 1 | 1 1 | plain", "flip", "flip"], ["show", "walk"], []):
            self.assert_line(desk, "\n".join([*lines, "scale 0"]), len(lines) + 1, ZeroScale, {})
            self.assertEqual(described(desk.present()), present)
            self.assertEqual((desk.names(), desk.lines_run), (("scale", "normal"), 3))
        # The history behind it is the old one, too.
        self.assertEqual(desk.run("undo\nundo"), ["task 4 2; 2 6 | 1 0 | plain", f"task {TASK}"])

    def test_a_first_run_that_is_refused(self):
        desk = Desk()
        self.assert_line(desk, f"task {TASK}\nflip\nnothing", 3, BadCommand, {"text": "nothing"})
        self.assert_refused(NoTask, {}, desk.present)
        self.assert_line(desk, "show", 1, NoTask, {})

    def test_the_first_bad_line_counts(self):
        self.assert_line(desk_with(f"task {TASK}"), "scale 0\nnothing\nshift x", 1, ZeroScale, {})

    def test_the_desk_goes_on(self):
        desk = desk_with(f"task {TASK}")
        self.assert_line(desk, "shift 1\nshift x", 2, BadNumber, {"text": "x"})
        self.assertEqual(desk.run("shift 1"), ["task 3 1; 1 4 | 1 0 | plain"])
        self.assertEqual(desk.lines_run, 2)


class ReadingTest(DeskCase):
    def test_bad_commands(self):
        for desk in (Desk(), desk_with(f"task {TASK}")):
            for line in ("nothing", "nothing 1", "Show", "show ", "show 1", " show", "walks", "shift-1", "tasks " + TASK,
                         "step", "orthogonal", "apply shift", "lead 1", "origin", "plain", "task\t1", "1", ";", "|"):
                self.assert_line(desk, line, 1, BadCommand, {"text": line})
            for word in WITH_ARGUMENT:
                self.assert_line(desk, word, 1, BadCommand, {"text": word})
                for line in (word.upper() + " 1", word + "s 1", " " + word + " 1"):
                    self.assert_line(desk, line, 1, BadCommand, {"text": line})
            for word in ALONE:
                for line in (word + " ", word + " 1", word + "  ", word + " " + word, word[:-1], word + word):
                    self.assert_line(desk, line, 1, BadCommand, {"text": line})

    def test_no_task_comes_ahead_of_the_reading(self):
        for word in WITH_ARGUMENT:
            if word != "task":
                for text in (WITH_ARGUMENT[word], "", "x", " ", "0", "7"):
                    self.assert_line(Desk(), f"{word} {text}", 1, NoTask, {})
        for word in ALONE:
            self.assert_line(Desk(), word, 1, NoTask, {})

    def test_the_argument_is_the_rest_of_the_line(self):
        desk = desk_with(f"task {TASK}")
        for word in ("shift", "scale"):
            for text in ("", " 1", "1 ", "1 2", "x", "2/4", "+1", "01", "1/0", "long", "1" * 401):
                self.assert_line(desk, f"{word} {text}", 1, BadNumber, {"text": text})
        for word in ("guess", "partner", "halt", "ahead", "adjoint"):
            for text, bad in [("", ""), (" 1 0", ""), ("1 0 ", ""), ("1  0", ""), ("1 x 0 y", "x"), ("1 0; 0 1", "0;")]:
                self.assert_line(desk, f"{word} {text}", 1, BadNumber, {"text": bad})
        for word in ("turn", "remeasure"):
            for text, bad in [("", ""), ("1 0;0 1", "0;0"), ("plain", "plain"), ("1 0; 0 1 ", ""), ("1; 2 3; z", "z")]:
                self.assert_line(desk, f"{word} {text}", 1, BadNumber, {"text": bad})
            self.assert_line(desk, f"{word} 1 0; 0", 1, RaggedRows, {"index": 1})
        for word in ("ahead", "adjoint"):
            self.assert_line(desk, f"{word} 1 0", 1, BadText, {"text": "1 0"})

    def test_counts(self):
        desk = desk_with(f"task {TASK}")
        for word in ("short", "forget"):
            for digit in "123456":
                self.assertIs(type(desk.run(f"{word} {digit}")), list)
            for text in ("0", "7", "9", "10", "01", "-1", "+1", "1 ", " 1", "1 1", "", "12", "one", "1/1", "123456", "1.0"):
                self.assert_line(desk, f"{word} {text}", 1, BadNumber, {"text": text})

    def test_counts_of_a_restart(self):
        desk = desk_with(f"task {TASK}")
        for text in ("1 1", "1 2", "2 1", "2 2"):
            self.assertIs(type(desk.run(f"restart {text}")), list)
        for text in ("", "1", "3", "1 1 1", "1 1 ", " 1 1", "1  1", "x", "1,1", "  "):
            self.assert_line(desk, f"restart {text}", 1, BadText, {"text": text})
        for text, word in [("3 1", "3"), ("1 3", "3"), ("0 x", "0"), ("x 0", "x"), ("1 ", ""), (" 1", ""), (" ", ""),
                           ("2 02", "02"), ("11 1", "11"), ("1 -1", "-1"), ("6 6", "6"), ("x y", "x")]:
            self.assert_line(desk, f"restart {text}", 1, BadNumber, {"text": word})

    def test_ways(self):
        desk = desk_with("task 1 1; 1 1 | 1 0 | plain")
        # The way is a part of the reading, so it comes ahead of the matrix without an inverse.
        for way in ("", "Least", "least ", " least", "short", "none", "least orthogonal"):
            self.assert_line(desk, f"solve {way}", 1, BadWay, {"way": way})
        for way in ("least", "orthogonal", "energy"):
            self.assert_line(desk, f"solve {way}", 1, Singular)


class StateTest(DeskCase):
    def test_task(self):
        for text in (TASK, "1/2 -1; 3/2 2 | 1/3 0 | 2/5 1/5; 1/5 3/5", "0 0 0; 0 0 0; 0 0 0 | 0 0 0 | plain"):
            desk = Desk()
            self.assertEqual(desk.run(f"task {text}"), [f"task {text}"])
            self.assertEqual(described(desk.present()), described(Task.read(text)))
        self.assertEqual(Desk().run("task 2 1; 1 3 | 1 0 | 1 0; 0 1"), [f"task {TASK}"])

    def test_task_refused(self):
        for desk in (Desk(), desk_with(f"task {TASK}")):
            for text, error, attributes in [
                ("", BadText, {"text": ""}), ("plain", BadText, {"text": "plain"}),
                ("x 1; 0 1 | 1 0 | plain", BadNumber, {"text": "x"}), ("1 0; 0 | 1 0 | plain", RaggedRows, {"index": 1}),
                (" 1 0; 0 1 | 1 0 | plain", BadNumber, {"text": ""}), ("1 0 | 1 0 | plain", NotSquare,
                                                                      {"height": 1, "width": 2}),
                ("1 | 1 | plain", SizeOutOfRange, {"size": 1}),
                ("1 0; 0 1 | 1 | plain", SizeMismatch, {"left": 2, "right": 1}),
                ("1 0; 0 1 | 1 0 | 1 2; 3 1", NotSymmetric, {"first": 0, "second": 1}),
                (f"1 0; 0 {10 ** 12} | {10 ** 12} 0 | plain", TooLong, {"part": "matrix"}),
                (f"1 0; 0 1 | 1/{10 ** 12} 0 | plain", TooLong, {"part": "side"}),
                (f"1 0; 0 1 | 1 0 | {10 ** 60} 0; 0 1", TooLong, {"part": "measure"}),
            ]:
                self.assert_line(desk, f"task {text}", 1, error, attributes)
            self.assert_line(desk, "task 1 0; 0 1 | 1 0 | 1 2; 2 1", 1, NotPositive)

    def test_each_change(self):
        history = History(Task.read(TASK))
        desk = desk_with(f"task {TASK}")
        for line, argument in [("shift -1", Ratio(-1)), ("scale 2/3", Ratio(2, 3)), ("turn 1 1; 0 2", Matrix([[1, 1], [0, 2]])),
                               ("remeasure 2 1; 1 3", Measure(Matrix([[2, 1], [1, 3]]))),
                               ("guess 1/2 5/2", Vector([1, 5], 2)), ("ahead 1 1", Poly([1, 1])), ("normal", None),
                               ("flip", None)]:
            wanted = history.apply(line.partition(" ")[0], argument)
            self.assertEqual(desk.run(line), [f"task {wanted}"])
            self.assertEqual(described(desk.present()), described(wanted))
            self.assertEqual(desk.names(), tuple(history))
        while len(history) > 0:
            self.assertEqual(desk.run("undo"), [f"task {history.undo()}"])
            self.assertEqual(desk.names(), tuple(history))
        self.assert_line(desk, "undo", 1, NothingToUndo, {})

    def test_changes_by_hand(self):
        desk = desk_with(f"task {TASK}")
        self.assertEqual(desk.run("shift 1/2\nscale -2\nguess 1 0\nremeasure 1 0; 0 1\nremeasure 4 0; 0 1\nundo\nflip\nshow"), [
            "task 5/2 1; 1 7/2 | 1 0 | plain", "task -5 -2; -2 -7 | 1 0 | plain", "task -5 -2; -2 -7 | 6 2 | plain",
            "task -5 -2; -2 -7 | 6 2 | plain", "task -5 -2; -2 -7 | 6 2 | 4 0; 0 1", "task -5 -2; -2 -7 | 6 2 | plain",
            "task -5 -2; -2 -7 | 6 2 | plain", "task -5 -2; -2 -7 | 6 2 | plain"])
        self.assertEqual(desk.names(), ("shift", "scale", "guess", "remeasure", "flip"))

    def test_changes_refused(self):
        desk = desk_with(f"task {TASK}", "flip")
        for line, error, attributes in [
            ("scale 0", ZeroScale, {}), ("turn 1 0", NotSquare, {"height": 1, "width": 2}),
            ("turn 1 0 0; 0 1 0; 0 0 1", SizeMismatch, {"left": 2, "right": 3}), ("turn 1 1; 1 1", Singular, None),
            ("turn 1 2; 3", RaggedRows, {"index": 1}), ("guess 1 0 0", SizeMismatch, {"left": 2, "right": 3}),
            ("guess 1", SizeMismatch, {"left": 2, "right": 1}), ("ahead 0", Singular, None),
            ("ahead 5 -5 1", Singular, None), (f"shift {10 ** 12}", TooLong, {"part": "matrix"}),
            (f"guess {10 ** 12} 0", TooLong, {"part": "side"}),
            (f"remeasure {10 ** 60} 0; 0 1", TooLong, {"part": "measure"}),
        ]:
            self.assert_line(desk, line, 1, error, attributes)
        self.assert_line(desk_with("task 1 1; 1 1 | 0 0 | plain"), "normal", 1, Singular)

    def test_remeasure_makes_the_measure_as_a_part_of_the_reading(self):
        desk = desk_with(f"task {TASK}")
        self.assert_line(desk, "remeasure plain", 1, BadNumber, {"text": "plain"})
        # These have another size, too.
        self.assert_line(desk, "remeasure 1 0 0; 0 1 0", 1, NotSquare, {"height": 2, "width": 3})
        self.assert_line(desk, "remeasure 1 2 0; 3 1 0; 0 0 1", 1, NotSymmetric, {"first": 0, "second": 1})
        self.assert_line(desk, "remeasure 1 0 0; 0 0 0; 0 0 1", 1, NotPositive)
        self.assert_line(desk, "remeasure 1 0 0; 0 1 0; 0 0 1", 1, SizeMismatch, {"left": 2, "right": 3})

    def test_large_scripts(self):
        desk = Desk()
        lines = [f"task {TASK}"] + ["shift 1", "undo"] * 9 + ["show"]
        self.assertEqual(desk.run("\n".join(lines)), [f"task {TASK}"] + ["task 3 1; 1 4 | 1 0 | plain", f"task {TASK}"] * 9
                         + [f"task {TASK}"])
        self.assertEqual((desk.lines_run, desk.names()), (20, ()))
        self.assert_line(desk, "shift " + "1" * 15000, 1, BadNumber, {"text": "1" * 15000})
        self.assert_line(desk, "x" * 19000, 1, BadCommand, {"text": "x" * 19000})
