"""Point 50: histories."""

from lastrows.changes import ahead, flip, guess, normal, remeasure, scale, shift, turn
from lastrows.errors import (BadChange, NothingToUndo, NotSquare, NoWayBack, Singular, SizeMismatch, TooLong, ZeroScale)
from lastrows.history import History
from lastrows.inverses import inverse
from lastrows.matrices import Matrix
from lastrows.measures import Measure
from lastrows.polys import Poly
from lastrows.ratios import Ratio
from lastrows.tasks import Task
from lastrows.vectors import Vector
from tests.support import Case, described, some_vector, source

TASK = Task.read("2 1; 1 3 | 1 0 | plain")
# Each of the eight changes with a fitting argument, as apply takes it.
GOOD = [("shift", Ratio(-7, 2), shift), ("scale", Ratio(2, 3), scale), ("turn", Matrix([[1, 1], [0, 2]]), turn),
        ("remeasure", Measure.weights(Ratio(1), Ratio(2)), remeasure), ("guess", Vector([1, 5], 2), guess),
        ("ahead", Poly([1, 1]), ahead), ("normal", None, normal), ("flip", None, flip)]
BAD = [("scale", Ratio(0), ZeroScale), ("turn", Matrix([[1, 2, 3]]), NotSquare), ("turn", Matrix.identity(3), SizeMismatch),
       ("turn", Matrix([[1, 1], [1, 1]]), Singular), ("remeasure", Measure.plain(3), SizeMismatch),
       ("guess", Vector([1]), SizeMismatch), ("ahead", Poly([]), Singular)]


def made(task, changes):
    history = History(task)
    for name, argument, _ in changes:
        history.apply(name, argument)
    return history


def told(history):
    return described((history.origin(), history.present(), tuple(history), len(history)))


class HistoryTest(Case):
    def test_without_changes(self):
        history = History(TASK)
        self.assertEqual((len(history), list(history)), (0, []))
        self.assertEqual(described(history.present()), described(TASK))
        self.assertEqual(described(history.origin()), described(TASK))
        for x in (Vector([1, 2]), Vector([1, 2], 3), Vector.zero(2)):
            self.assert_same(history.lead(x), x)
        self.assert_refused(NothingToUndo, {}, history.undo)

    def test_each_change(self):
        for name, argument, change in GOOD:
            history = History(TASK)
            wanted = change(TASK) if argument is None else change(TASK, argument)
            found = history.apply(name, argument)
            self.assertIs(type(found), Task)
            self.assertEqual(described(found), described(wanted.task))
            self.assertEqual(described(history.present()), described(wanted.task))
            self.assertEqual(described(history.origin()), described(TASK))
            self.assertEqual((len(history), list(history)), (1, [name]))
            self.assertEqual(described(history.undo()), described(TASK))
            self.assertEqual((len(history), list(history)), (0, []))

    def test_the_argument_may_be_left_out(self):
        history = History(TASK)
        history.apply("normal")
        history.apply("flip")
        history.apply(argument=Ratio(3), name="scale")
        self.assertEqual(list(history), ["normal", "flip", "scale"])

    def test_changes_one_after_the_other(self):
        history, task = History(TASK), TASK
        tasks = [TASK]
        for name, argument, change in GOOD:
            task = (change(task) if argument is None else change(task, argument)).task
            self.assertEqual(described(history.apply(name, argument)), described(task))
            tasks.append(task)
        self.assertEqual(list(history), [name for name, _, _ in GOOD])
        self.assertEqual(len(history), 8)
        for wanted in tasks[-2::-1]:
            self.assertEqual(described(history.undo()), described(wanted))
            self.assertEqual(described(history.present()), described(wanted))
            self.assertEqual(described(history.origin()), described(TASK))
        self.assert_refused(NothingToUndo, {}, history.undo)

    def test_iterating(self):
        history = made(TASK, GOOD[:4])
        pairs = [(one, two) for one in history for two in history]
        self.assertEqual(len(pairs), 16)
        self.assertEqual([name for name in history], ["shift", "scale", "turn", "remeasure"])
        names = iter(history)
        history.undo()
        self.assertEqual((list(names), list(history)), (["shift", "scale", "turn", "remeasure"],
                                                        ["shift", "scale", "turn"]))

    def test_undo_and_go_on(self):
        history = made(TASK, GOOD[:3])
        history.undo()
        history.apply("flip")
        self.assertEqual(list(history), ["shift", "scale", "flip"])
        self.assertEqual(described(history.present()), described(flip(scale(shift(TASK, Ratio(-7, 2)).task,
                                                                            Ratio(2, 3)).task).task))

    def test_two_histories_of_one_task(self):
        one, two = History(TASK), History(TASK)
        one.apply("flip")
        one.apply("normal")
        self.assertEqual((len(one), len(two)), (2, 0))

    def test_twenty_changes(self):
        history = History(TASK)
        for k in range(20):
            history.apply("scale", Ratio(-1) if k < 19 else Ratio(3))
        self.assertEqual(len(history), 20)
        self.assertEqual(str(history.present()), "-6 -3; -3 -9 | 1 0 | plain")
        self.assert_same(history.lead(Vector([1, 2])), Vector([-3, -6]))


class LeadTest(Case):
    def test_the_solution_is_led_back(self):
        solution = inverse(TASK.matrix) * TASK.side
        numbers = source(510)
        changes = [change for change in GOOD if change[0] not in ("shift", "flip")]
        for _ in range(10):
            numbers.shuffle(changes)
            for many in range(len(changes) + 1):
                history = made(TASK, changes[:many])
                present = history.present()
                before = told(history)
                self.assert_same(history.lead(inverse(present.matrix) * present.side), solution)
                self.assertEqual(told(history), before)

    def test_the_last_change_comes_first(self):
        history = made(TASK, [("scale", Ratio(2), None), ("guess", Vector([1, 1]), None)])
        self.assertEqual(str(history.lead(Vector([10, 20]))), "22 42")
        history = made(TASK, [("guess", Vector([1, 1]), None), ("scale", Ratio(2), None)])
        self.assertEqual(str(history.lead(Vector([10, 20]))), "21 41")
        history = made(TASK, [("turn", Matrix([[1, 1], [0, 1]]), None), ("guess", Vector([1, 1]), None)])
        self.assertEqual(str(history.lead(Vector([10, 20]))), "32 21")
        self.assertEqual(str(history.lead(Vector([10, 20]))), "32 21")

    def test_no_way_back(self):
        x = some_vector(source(511), 2)
        for changes, place in [(["shift"], 0), (["flip"], 0), (["normal", "flip"], 1), (["flip", "shift"], 0),
                               (["normal", "normal", "shift", "flip", "normal"], 2), (["flip", "normal"], 0)]:
            history = History(TASK)
            for name in changes:
                history.apply(name, Ratio(1) if name == "shift" else None)
            self.assert_refused(NoWayBack, {"place": place}, history.lead, x)
            self.assertEqual(list(history), changes)
        history = made(TASK, [GOOD[1], GOOD[0]])
        self.assert_refused(NoWayBack, {"place": 1}, history.lead, x)
        history.undo()
        self.assert_same(history.lead(x), x * Ratio(2, 3))
        self.assert_refused(NoWayBack, {"place": 0}, made(TASK, [("shift", Ratio(0), None)]).lead, x)


class RefusedTest(Case):
    def test_bad_change(self):
        for history in (History(TASK), made(TASK, GOOD)):
            before = told(history)
            for name in ("", "Shift", "shift ", "undo", "lead", "task", "show", "solve", "long"):
                for argument in (None, Ratio(0), Ratio(1)):
                    self.assert_refused(BadChange, {"name": name}, history.apply, name, argument)
            self.assert_refused(BadChange, {"name": "none"}, history.apply, "none")
            self.assertEqual(told(history), before)

    def test_the_errors_of_the_changes(self):
        for history in (History(TASK), made(TASK, GOOD[1:3])):
            before = told(history)
            for name, argument, error in BAD:
                one = self.caught(error, history.apply, name, argument)
                self.assertEqual(described(self.caught(error, history.apply, name, argument)), described(one))
                self.assertEqual(told(history), before)
        history = History(Task(Matrix([[1, 1], [1, 1]]), Vector([1, 0]), Measure.plain(2)))
        self.assert_singular(Matrix([[1, 1], [1, 1]]), history.apply, "normal")
        self.assertEqual(len(history), 0)


class TooLongTest(Case):
    def check_parts(self, part, good, bad):
        """Checks that a history can be made of the good task, and that the bad one is too long in the part."""
        self.assertEqual(described(History(good).present()), described(good))
        self.assert_refused(TooLong, {"part": part}, History, bad)

    def test_the_matrix(self):
        side, measure = Vector([1, 0]), Measure.plain(2)
        most = 10 ** 12 - 1
        for sign in (1, -1):
            for place in range(4):
                tops = [1, 2, 3, 4]
                tops[place] = sign * most
                good = Matrix([tops[:2], tops[2:]])
                tops[place] = sign * (most + 1)
                self.check_parts("matrix", Task(good, side, measure), Task(Matrix([tops[:2], tops[2:]]), side, measure))
        self.check_parts("matrix", Task(Matrix([[1, 2], [3, 4]], most), side, measure),
                         Task(Matrix([[1, 2], [3, 5]], most + 1), side, measure))

    def test_the_numbers_meant_are_those_over_one_bottom(self):
        # Each entry is short, but over their common bottom they are not.
        matrix = Matrix.diagonal(Ratio(1, 10 ** 7 - 1), Ratio(1, 10 ** 7 + 1))
        self.assertEqual(matrix.bottom, 10 ** 14 - 1)
        self.assert_refused(TooLong, {"part": "matrix"}, History, Task(matrix, Vector([1, 0]), Measure.plain(2)))
        # In lowest terms the numbers are short.
        matrix = Matrix([[10 ** 15, 0], [0, 10 ** 15]], 10 ** 20)
        self.assertEqual(len(History(Task(matrix, Vector([1, 0]), Measure.plain(2)))), 0)

    def test_the_side(self):
        matrix, measure = TASK.matrix, TASK.measure
        most = 10 ** 12 - 1
        for sign in (1, -1):
            for good, bad in [(Vector([sign * most, 1]), Vector([sign * (most + 1), 1])),
                              (Vector([0, sign * most]), Vector([0, sign * (most + 1)])),
                              (Vector([sign, 1], most), Vector([sign, 1], most + 1))]:
                self.check_parts("side", Task(matrix, good, measure), Task(matrix, bad, measure))

    def test_the_measure(self):
        matrix, side = TASK.matrix, TASK.side
        most = 10 ** 60 - 1
        for good, bad in [(Measure.weights(Ratio(most), Ratio(1)), Measure.weights(Ratio(most + 1), Ratio(1))),
                          (Measure.weights(Ratio(1), Ratio(1, most)), Measure.weights(Ratio(1), Ratio(1, most + 1))),
                          (Measure(Matrix([[most, -most + 1], [-most + 1, most]])),
                           Measure(Matrix([[most, -most + 1], [-most + 1, most + 1]])))]:
            self.check_parts("measure", Task(matrix, side, good), Task(matrix, side, bad))

    def test_the_order_of_the_parts(self):
        long, wide = 10 ** 12, Measure.weights(Ratio(1), Ratio(10 ** 60))
        matrix, side = Matrix([[1, 0], [0, long]]), Vector([1, long])
        self.assert_refused(TooLong, {"part": "matrix"}, History, Task(matrix, side, wide))
        self.assert_refused(TooLong, {"part": "side"}, History, Task(TASK.matrix, side, wide))
        self.assert_refused(TooLong, {"part": "matrix"}, History, Task(matrix, TASK.side, wide))
        self.assert_refused(TooLong, {"part": "measure"}, History, Task(TASK.matrix, TASK.side, wide))

    def test_apply(self):
        for history in (History(TASK), made(TASK, [("guess", Vector([1, 1]), None)])):
            before = told(history)
            for name, argument, part in [
                ("shift", Ratio(10 ** 12), "matrix"), ("shift", Ratio(1, 10 ** 12), "matrix"),
                ("scale", Ratio(10 ** 12), "matrix"), ("scale", Ratio(-1, 10 ** 12), "matrix"),
                ("turn", Matrix([[1, 10 ** 12], [0, 1]]), "matrix"), ("guess", Vector([10 ** 12, 0]), "side"),
                ("guess", Vector([1, 0], 10 ** 12), "side"), ("ahead", Poly([10 ** 12]), "matrix"),
                ("remeasure", Measure.plain(2) * 10 ** 60, "measure"),
                ("remeasure", Measure.plain(2) * Ratio(1, 10 ** 60), "measure"),
            ]:
                self.assert_refused(TooLong, {"part": part}, history.apply, name, argument)
                self.assertEqual(told(history), before)

    def test_apply_at_the_limits(self):
        history = History(Task.read("0 1; 1 0 | 1 0 | plain"))
        history.apply("shift", Ratio(10 ** 12 - 1))
        self.assert_refused(TooLong, {"part": "matrix"}, history.apply, "shift", Ratio(1))
        history.apply("shift", Ratio(-1))
        history.apply("remeasure", Measure.weights(Ratio(10 ** 60 - 1), Ratio(1)))
        self.assertEqual(list(history), ["shift", "shift", "remeasure"])
        # A turn may make the measure too long, while the matrix and the side stay short.
        history = History(Task.read("1 0; 0 1 | 0 0 | plain"))
        self.assert_refused(TooLong, {"part": "measure"}, history.apply, "turn", Matrix([[10 ** 30, 0], [0, 1]]))
        history.apply("turn", Matrix([[10 ** 29, 0], [0, 1]]))
        self.assertEqual(len(history), 1)

    def test_the_errors_of_the_change_come_first(self):
        history = History(TASK)
        self.assert_refused(ZeroScale, {}, history.apply, "scale", Ratio(0))
        self.assert_refused(SizeMismatch, {"left": 2, "right": 3}, history.apply, "guess", Vector([10 ** 12, 0, 0]))
        self.assert_refused(SizeMismatch, {"left": 2, "right": 1}, history.apply, "remeasure",
                            Measure.plain(1) * 10 ** 60)
        self.assert_refused(BadChange, {"name": "stretch"}, history.apply, "stretch", Ratio(10 ** 12))

    def test_normal_may_grow_too_long(self):
        history = History(Task.read("1234567 1; 1 1234567 | 1 0 | plain"))
        self.assert_refused(TooLong, {"part": "matrix"}, history.apply, "normal")
        self.assertEqual(len(history), 0)
