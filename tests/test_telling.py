"""Point 55: the commands of the desk that tell something."""

from lastrows.adjoints import measure_with_adjoint
from lastrows.answers import Granted, NoReturn, TraceBar, TraceDiffers
from lastrows.desk import Desk
from lastrows.energy import EnergySolver
from lastrows.errors import (BadNumber, BadWay, DegreeTooLarge, NotCyclic, NotPositive, NotSelfAdjoint, NoWayBack,
                             Singular, SizeMismatch, SizeOutOfRange, ZeroPartner)
from lastrows.halting import halting_side
from lastrows.inverses import inverse
from lastrows.leastmemory import least_memory
from lastrows.matrices import Matrix
from lastrows.measures import Measure
from lastrows.memories import memory
from lastrows.polys import Poly
from lastrows.restarts import restart
from lastrows.rowmaking import forgetful_rows
from lastrows.solvers import LeastSolver, OrthogonalSolver
from lastrows.states import advance, first_state
from lastrows.tasks import Task
from lastrows.twosided import TwoSided
from lastrows.vectors import Vector
from lastrows.walks import Walk
from tests.support import cycle, is_cyclic, some_base, some_measure, some_task, some_vector, source
from tests.test_desk import DeskCase, desk_with

TASK = "2 1; 1 3 | 1 0 | plain"
SINGULAR = "1 1; 1 1 | {} | plain"


def tasks(seed):
    """Yields tasks of the sizes 2 to 5 that a history takes."""
    numbers = source(seed)
    for size in range(2, 6):
        yield some_task(numbers, size)
        yield some_task(numbers, size, 1)
        yield Task(some_base(numbers, size, 9), some_vector(numbers, size), Measure.plain(size))
        yield Task(cycle(size), Vector.unit(size, 0), Measure.plain(size))
        yield Task(some_base(numbers, size), Vector.zero(size), some_measure(numbers, size))
        yield large_task(numbers, size)


def large_task(numbers, size):
    """Returns a task whose numbers are nearly as long as a history takes them."""
    measure = some_measure(numbers, size, 10 ** 28)
    matrix = Matrix([[numbers.randint(10 ** 10, 10 ** 11) for _ in range(size)] for _ in range(size)], 10 ** 11 + 3)
    return Task(matrix, Vector([numbers.randint(10 ** 10, 10 ** 11) for _ in range(size)], 10 ** 11 + 9), measure)


def none_or(thing):
    return "none" if thing is None else str(thing)


class TellingCase(DeskCase):
    def assert_tells(self, task, line, wanted):
        """Checks the output of a line, two times alike, and that the line changes nothing but the count of lines."""
        desk = desk_with(f"task {task}")
        for count in (2, 3):
            self.assertEqual(desk.run(line), wanted)
            self.assertEqual((str(desk.present()), desk.names(), desk.lines_run), (str(task), (), count))

    def assert_refuses(self, task, line, error, attributes=None):
        self.assert_line(desk_with(f"task {task}"), line, 1, error, attributes)


class WalkTest(TellingCase):
    def test_many(self):
        for task in tasks(550):
            walk = Walk(task.matrix, task.measure, task.side)
            wanted = [f"row {m}: {walk.rows[m]} | {walk.squares[m]} | {' '.join(str(one) for one in walk.shares[m])}"
                      for m in range(walk.grade)]
            self.assert_tells(task, "walk", wanted + [f"grade {walk.grade} band {walk.band}"])

    def test_by_hand(self):
        self.assert_tells(TASK, "walk", ["row 0: 1 0 | 1 | 2", "row 1: 0 1 | 1 | 1 3", "grade 2 band 1"])
        self.assert_tells("2 1; 1 3 | 0 0 | plain", "walk", ["grade 0 band 0"])
        self.assert_tells("0 0 1; 1 0 0; 0 1 0 | 0 1/2 0 | plain", "walk",
                          ["row 0: 0 1/2 0 | 1/4 | 0", "row 1: 0 0 1/2 | 1/4 | 0 0", "row 2: 1/2 0 0 | 1/4 | 1 0 0",
                           "grade 3 band 2"])

    def test_long_numbers(self):
        lines = desk_with(f"task {large_task(source(551), 5)}").run("walk")
        self.assertEqual(lines[-1], "grade 5 band 4")
        self.assertNotIn("long", lines[0])
        words = lines[4].replace(" |", "").split(" ")[2:]
        self.assertEqual(words[:6], ["long"] * 6)


class MemoryTest(TellingCase):
    def test_many(self):
        for task in tasks(552):
            if is_cyclic(task.matrix):
                found = memory(task.matrix, task.measure)
                self.assert_tells(task, "memory", [f"memory {found.least}", f"adjoint {none_or(found.poly)}",
                                                   f"start {found.start}"])
            else:
                self.assert_refuses(task, "memory", NotCyclic)

    def test_by_hand(self):
        lines = desk_with("task 0 0 1; 1 0 0; 0 1 0 | 0 0 0 | plain").run("memory")
        self.assertEqual(lines[:2], ["memory 2", "adjoint 0 0 1"])
        lines = desk_with("task 1 2; 3 4 | 0 0 | plain").run("memory")
        self.assertEqual(lines[:2], ["memory 1", "adjoint none"])
        lines = desk_with("task 1 1 0; 0 2 1; 0 0 3 | 0 0 0 | plain").run("memory")
        self.assertEqual(lines[:2], ["memory 2", "adjoint none"])
        self.assert_refuses("1 0; 0 1 | 1 0 | plain", "memory", NotCyclic, {"found": 1})


class AdjointTest(TellingCase):
    def line(self, answer):
        if type(answer) is TraceDiffers:
            return f"trace {answer.power}"
        if type(answer) is NoReturn:
            return "no return"
        if type(answer) is TraceBar:
            return f"bar {answer.witness}"
        self.assertIs(type(answer), Granted)
        return f"granted {answer.measure.matrix}"

    def test_many(self):
        seen = set()
        for task in tasks(553):
            if is_cyclic(task.matrix):
                for poly in (Poly.x(), Poly([]), Poly([1, -1]), Poly([0] * (task.size - 1) + [1]), Poly([1, 2], 3)):
                    answer = measure_with_adjoint(task.matrix, poly)
                    self.assert_tells(task, f"adjoint {poly}", [self.line(answer)])
                    seen.add(type(answer))
        self.assertGreaterEqual(seen, {TraceDiffers, TraceBar, Granted})

    def test_by_hand(self):
        self.assert_tells("0 2; 1 0 | 0 0 | plain", "adjoint 0 1", ["granted 2 0; 0 4"])
        self.assert_tells(TASK, "adjoint 1", ["trace 1"])
        self.assert_tells("0 -1; 1 0 | 1 0 | plain", "adjoint 0 1", ["bar 0 1"])
        self.assert_tells("0 -1; 1 0 | 1 0 | plain", "adjoint 0 -1", ["granted 2 0; 0 2"])
        # The polynomial turns the eigenvalues 1, 2, 3 in a circle.
        self.assert_tells("1 0 0; 0 2 0; 0 0 3 | 0 0 0 | plain", "adjoint -2 11/2 -3/2", ["no return"])

    def test_refused(self):
        self.assert_refuses("1 0; 0 1 | 1 0 | plain", "adjoint 1 1 1", NotCyclic, {"found": 1})
        self.assert_refuses(TASK, "adjoint 1 1 1", DegreeTooLarge, {"found": 2})


class LeastTest(TellingCase):
    def test_many(self):
        for task in tasks(554):
            if task.size == 5:
                self.assert_refuses(task, "least", SizeOutOfRange, {"size": 5})
            elif is_cyclic(task.matrix):
                found = least_memory(task.matrix)
                self.assert_tells(task, "least", [f"least {found.least}", f"measure {found.measure.matrix}"])

    def test_by_hand(self):
        # The measure is written out, also a plain one.
        self.assert_tells(TASK, "least", ["least 1", "measure 1 0; 0 1"])
        self.assert_tells("0 0 1; 1 0 0; 0 1 0 | 0 0 0 | plain", "least", ["least 2", "measure 1 0 0; 0 1 0; 0 0 1"])
        self.assert_refuses("1 0; 0 1 | 1 0 | plain", "least", NotCyclic, {"found": 1})


class SolveTest(TellingCase):
    def lines(self, steps):
        return [f"step {step.count}: none" if step.answer is None else
                f"step {step.count}: {step.answer} | {step.residual} | {step.square}" for step in steps]

    def test_many(self):
        for task in tasks(555):
            self.assert_tells(task, "solve least", self.lines(LeastSolver(task).steps()))
            self.assert_tells(task, "solve orthogonal", self.lines(OrthogonalSolver(task).steps()))
            positive = some_measure(source(556), task.size).matrix
            energetic = Task(positive, task.side, Measure.plain(task.size))
            self.assert_tells(energetic, "solve energy", self.lines(EnergySolver(energetic).steps()))

    def test_by_hand(self):
        self.assert_tells(TASK, "solve least", ["step 0: 0 0 | 1 0 | 1", "step 1: 2/5 0 | 1/5 -2/5 | 1/5",
                                                "step 2: 3/5 -1/5 | 0 0 | 0"])
        self.assert_tells(TASK, "solve energy", ["step 0: 0 0 | 1 0 | 1", "step 1: 1/2 0 | 0 -1/2 | 1/4",
                                                 "step 2: 3/5 -1/5 | 0 0 | 0"])
        self.assert_tells("0 1; 1 1 | 1 0 | plain", "solve orthogonal",
                          ["step 0: 0 0 | 1 0 | 1", "step 1: none", "step 2: -1 1 | 0 0 | 0"])
        self.assert_tells("2 1; 1 3 | 0 0 | plain", "solve least", ["step 0: 0 0 | 0 0 | 0"])

    def test_refused(self):
        for side in ("1 0", "0 0", "1 1"):
            for way in ("least", "orthogonal", "energy"):
                self.assert_refuses(SINGULAR.format(side), f"solve {way}", Singular)
            self.assert_refuses(SINGULAR.format(side), "solve long", BadWay, {"way": "long"})
        self.assert_refuses("1 2; 3 4 | 1 0 | plain", "solve energy", NotSelfAdjoint, {"first": 0, "second": 1})
        self.assert_refuses("1 2; 2 1 | 1 0 | plain", "solve energy", NotPositive)

    def test_long_numbers(self):
        lines = desk_with(f"task {large_task(source(557), 5)}").run("solve least")
        self.assertEqual(lines[4].split(" ")[2:], ["long"] * 5 + ["|"] + ["long"] * 5 + ["|", "long"])


class ShortTest(TellingCase):
    def test_many(self):
        for task in tasks(558):
            for keep in range(1, 7):
                states = [first_state(task)]
                while (len(states) < task.size + 1 and not states[-1].residual.is_zero
                       and not states[-1].kept[-1].is_zero):
                    states.append(advance(task, states[-1], keep=keep))
                self.assert_tells(task, f"short {keep}",
                                  [f"state {k}: {state.answer} | {state.residual}" for k, state in enumerate(states)])

    def test_by_hand(self):
        self.assert_tells(TASK, "short 2", ["state 0: 0 0 | 1 0", "state 1: 2/5 0 | 1/5 -2/5", "state 2: 3/5 -1/5 | 0 0"])
        self.assert_tells("2 1; 1 3 | 0 0 | plain", "short 1", ["state 0: 0 0 | 0 0"])
        # The first two steps leave the side as it is; with one kept vector the third one does, too.
        self.assert_tells("0 0 1; 1 0 0; 0 1 0 | 1 0 0 | plain", "short 1",
                          ["state 0: 0 0 0 | 1 0 0", "state 1: 0 0 0 | 1 0 0", "state 2: 0 0 0 | 1 0 0",
                           "state 3: 0 0 1 | 0 0 0"])

    def test_at_most_size_and_one_states(self):
        lines = desk_with("task 2 1 0; 1 3 1; 0 1 4 | 1 0 0 | plain").run("short 1")
        self.assertEqual(len(lines), 4)
        self.assertNotEqual(lines[-1].partition(" | ")[2], "0 0 0")
        self.assertEqual([line.partition(":")[0] for line in lines], ["state 0", "state 1", "state 2", "state 3"])

    def test_refused(self):
        for side in ("1 0", "0 0", "1 1"):
            self.assert_refuses(SINGULAR.format(side), "short 1", Singular)
            self.assert_refuses(SINGULAR.format(side), "short 7", BadNumber, {"text": "7"})


class ForgetTest(TellingCase):
    def test_many(self):
        for task in tasks(559):
            for keep in range(1, 7):
                rows = list(forgetful_rows(task.matrix, task.measure, task.side, keep=keep))
                self.assert_tells(task, f"forget {keep}", [f"row {m}: {row}" for m, row in enumerate(rows)])

    def test_by_hand(self):
        task = "0 0 1; 1 0 0; 0 1 0 | 1 0 0 | plain"
        self.assert_tells(task, "forget 2", ["row 0: 1 0 0", "row 1: 0 1 0", "row 2: 0 0 1", "row 3: 1 0 0"])
        self.assert_tells(task, "forget 3", ["row 0: 1 0 0", "row 1: 0 1 0", "row 2: 0 0 1"])
        self.assert_tells("2 1; 1 3 | 0 0 | plain", "forget 1", [])
        # A matrix without an inverse is walked, too.
        self.assert_tells(SINGULAR.format("2 0"), "forget 1", ["row 0: 2 0", "row 1: 0 2", "row 2: 2 0"])


class RestartTest(TellingCase):
    def test_many(self):
        for task in tasks(560):
            for every in (1, 2):
                for rounds in (1, 2):
                    steps = restart(task, every=every, rounds=rounds)
                    self.assert_tells(task, f"restart {every} {rounds}",
                                      [f"step {step.count}: {step.answer} | {step.residual} | {step.square}"
                                       for step in steps])

    def test_by_hand(self):
        self.assert_tells(TASK, "restart 1 2", ["step 0: 0 0 | 1 0 | 1", "step 1: 2/5 0 | 1/5 -2/5 | 1/5",
                                                "step 2: 12/25 -4/25 | 1/5 0 | 1/25"])
        self.assert_tells(TASK, "restart 2 1", ["step 0: 0 0 | 1 0 | 1", "step 2: 3/5 -1/5 | 0 0 | 0"])
        self.assert_tells(TASK, "restart 2 2", ["step 0: 0 0 | 1 0 | 1", "step 2: 3/5 -1/5 | 0 0 | 0"])
        self.assert_tells("2 1; 1 3 | 0 0 | plain", "restart 2 2", ["step 0: 0 0 | 0 0 | 0"])

    def test_refused(self):
        for side in ("1 0", "0 0", "1 1"):
            self.assert_refuses(SINGULAR.format(side), "restart 2 2", Singular)
            self.assert_refuses(SINGULAR.format(side), "restart 2 3", BadNumber, {"text": "3"})


class PartnerTest(TellingCase):
    def test_many(self):
        numbers = source(561)
        for task in tasks(561):
            for partner in (some_vector(numbers, task.size), Vector.unit(task.size, 0), Vector.unit(task.size, 1),
                            Vector.zero(task.size)):
                walk = TwoSided(task.matrix, task.side, partner)
                wanted = [f"answer {k}: {none_or(walk.answer_at(k))}" for k in range(walk.halt + 1)]
                self.assert_tells(task, f"partner {partner}", [f"halt {walk.halt} {walk.ending}", *wanted])

    def test_by_hand(self):
        self.assert_tells("0 1; 1 1 | 1 0 | plain", "partner 1 0",
                          ["halt 2 row", "answer 0: 0 0", "answer 1: none", "answer 2: -1 1"])
        self.assert_tells(TASK, "partner 0 1", ["halt 0 pairing", "answer 0: 0 0"])
        self.assert_tells(TASK, "partner 0 0", ["halt 0 partner", "answer 0: 0 0"])
        self.assert_tells(SINGULAR.format("1 0"), "partner 1 0",
                          ["halt 2 row", "answer 0: 0 0", "answer 1: 1 0", "answer 2: none"])

    def test_refused(self):
        for length in (1, 3, 6):
            self.assert_refuses(TASK, "partner" + " 0" * length, SizeMismatch, {"left": 2, "right": length})
            self.assert_refuses("2 1; 1 3 | 0 0 | plain", "partner" + " 1" * length, SizeMismatch,
                                {"left": 2, "right": length})


class HaltTest(TellingCase):
    def test_many(self):
        numbers = source(562)
        for task in tasks(562):
            if is_cyclic(task.matrix):
                for partner in (some_vector(numbers, task.size), Vector.unit(task.size, 0), Vector([1] * task.size)):
                    side, halt = halting_side(task.matrix, partner)
                    self.assert_tells(task, f"halt {partner}", [f"side {side} halts at {halt}"])

    def test_by_hand(self):
        lines = desk_with("task 2 0; 0 3 | 0 0 | plain").run("halt 0 1")
        self.assertEqual(len(lines), 1)
        self.assertRegex(lines[0], "^side [^ ]+ [^ ]+ halts at 1$")

    def test_refused(self):
        for length in (1, 3, 6):
            for task in (TASK, "1 0; 0 1 | 1 0 | plain"):
                self.assert_refuses(task, "halt" + " 0" * length, SizeMismatch, {"left": 2, "right": length})
        self.assert_refuses("1 0; 0 1 | 1 0 | plain", "halt 0 0", NotCyclic, {"found": 1})
        self.assert_refuses(TASK, "halt 0 0", ZeroPartner, {})


class BackTest(TellingCase):
    def test_without_changes(self):
        for task in tasks(563):
            self.assert_tells(task, "back", [f"answer {inverse(task.matrix) * task.side}"])

    def test_the_answer_of_the_first_task(self):
        desk = desk_with(f"task {TASK}")
        for line in ("scale 2/3", "turn 1 1; 0 2", "remeasure 2 1; 1 3", "guess 1/2 5/2", "ahead 1 1", "normal"):
            desk.run(line)
            self.assertEqual(desk.run("back"), ["answer 3/5 -1/5"])
        for _ in range(6):
            desk.run("undo")
            self.assertEqual(desk.run("back\nback"), ["answer 3/5 -1/5"] * 2)

    def test_no_way_back_comes_first(self):
        for change, place in [("shift 1", 0), ("flip", 0)]:
            desk = desk_with(f"task {TASK}", change)
            self.assert_line(desk, "back", 1, NoWayBack, {"place": place})
        desk = desk_with(f"task {TASK}", "normal", "scale 2", "flip", "shift 1")
        self.assert_line(desk, "back", 1, NoWayBack, {"place": 2})
        for side in ("1 0", "0 0", "1 1"):
            desk = desk_with("task " + SINGULAR.format(side), "remeasure 1 0; 0 2", "flip")
            self.assert_line(desk, "back", 1, NoWayBack, {"place": 1})
            desk.run("undo")
            self.assert_line(desk, "back", 1, Singular)
            desk.run("undo")
            self.assert_line(desk, "back", 1, Singular)

    def test_a_matrix_that_loses_its_inverse(self):
        desk = desk_with("task 2 0; 0 3 | 1 1 | plain", "shift -2")
        self.assert_line(desk, "back", 1, NoWayBack, {"place": 0})
        desk.run("undo")
        self.assertEqual(desk.run("back"), ["answer 1/2 1/3"])

    def test_long_numbers(self):
        self.assertEqual(Desk().run(f"task {large_task(source(564), 5)}\nback")[1].partition(" ")[0], "answer")
