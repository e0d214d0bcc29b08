"""Points 37, 38 and 39: steps, and the solvers for the least and for the orthogonal residual."""

import inspect

from lastrows.matrices import Matrix
from lastrows.measures import Measure
from lastrows.ratios import Ratio
from lastrows.solvers import LeastSolver, OrthogonalSolver, Solver
from lastrows.spaces import grade
from lastrows.steps import EnergyStep, Step
from lastrows.tasks import Task
from lastrows.vectors import Vector
from lastrows.walks import Walk
from tests.support import (Case, cycle, diagonal, entries, fraction, lies_in_space, minus, slow_dot, slow_solve,
                           slow_times, some_base, some_measure, some_singular, some_task, some_vector, source, space,
                           table, vector_of)

SOLVERS = (LeastSolver, OrthogonalSolver)


def samples(seed):
    """Yields tasks of the sizes 2 to 5: plain and other measures, sides of all kinds of grades, large numbers."""
    numbers = source(seed)
    for size in range(2, 6):
        for most in (1, 1, 3):
            a = some_base(numbers, size, most)
            for measure in (Measure.plain(size), some_measure(numbers, size)):
                for side in (some_vector(numbers, size), Vector.unit(size, numbers.randrange(size)), Vector.zero(size)):
                    yield Task(a, side, measure)
        yield Task(cycle(size), Vector.unit(size, 0), Measure.plain(size))
        yield Task(diagonal(*[1 + k // 2 for k in range(size)]), some_vector(numbers, size), some_measure(numbers, size))
        yield Task(Matrix.identity(size) * Ratio(-2, 3), some_vector(numbers, size), some_measure(numbers, size))
        yield some_task(numbers, size, 10 ** 20)


class StepTest(Case):
    def test_the_attributes(self):
        answer, residual = Vector([1, 2]), Vector([3, 4])
        told = {"count": 3, "answer": answer, "residual": residual, "square": Ratio(25)}
        self.assertEqual(vars(Step(3, answer, residual, Ratio(25))), told)
        self.assertEqual(vars(EnergyStep(3, answer, residual, Ratio(25), Ratio(7), Ratio(1, 2))),
                         {**told, "energy": Ratio(7), "error": Ratio(1, 2)})
        self.assertEqual(vars(Step(0, None, None, None)), {"count": 0, "answer": None, "residual": None, "square": None})

    def test_an_energy_step_is_a_step(self):
        self.assertEqual(EnergyStep.__bases__, (Step,))
        self.assertIsInstance(EnergyStep(0, Vector([1]), Vector([1]), Ratio(1), Ratio(1), Ratio(1)), Step)


class SolverTest(Case):
    def test_the_task(self):
        task = Task(Matrix([[1, 2], [3, 4]]), Vector([1, 0]), Measure.plain(2))
        for kind in (Solver, *SOLVERS):
            solver = kind(task)
            self.assertIsInstance(solver, Solver)
            self.assertIs(solver.task, task)
        self.assertFalse(hasattr(Solver(task), "steps"))

    def test_singular(self):
        numbers = source(370)
        for size in range(2, 6):
            for matrix in (some_singular(numbers, size), Matrix.zero(size, size), diagonal(0, *range(1, size))):
                inside = matrix * some_vector(numbers, size)
                for side in (some_vector(numbers, size), Vector.zero(size), inside, Vector.unit(size, size - 1)):
                    for measure in (Measure.plain(size), some_measure(numbers, size)):
                        for kind in (Solver, *SOLVERS):
                            self.assert_singular(matrix, kind, Task(matrix, side, measure))


class StepsCase(Case):
    def check_steps(self, solver):
        """Checks all that point 37 says of the steps of a solver, and returns them."""
        task = solver.task
        steps = list(solver.steps())
        order = grade(task.matrix, task.side)
        self.assertEqual([step.count for step in steps], list(range(order + 1)))
        self.assert_same(steps[0].answer, Vector.zero(task.size))
        rows, side, weights = table(task.matrix), entries(task.side), table(task.measure.matrix)
        solution = slow_solve(rows, side)
        for step in steps:
            if step.answer is not None:
                residual = minus(side, slow_times(rows, entries(step.answer)))
                self.assertEqual(entries(step.residual), residual)
                self.assertEqual(fraction(step.square), slow_dot(weights, residual, residual))
                self.assertTrue(lies_in_space(task.matrix, step.answer, task.side, step.count))
                self.assert_made_anew(step.answer)
            self.assertEqual(step.answer is not None and entries(step.answer) == solution, step.count == order)
        return steps

    def check_again(self, solver):
        """Checks that steps can be asked for again, also two times in turn."""
        self.assertTrue(inspect.isgenerator(solver.steps()))
        first = [vars(step) for step in solver.steps()]
        self.assertEqual([vars(step) for step in solver.steps()], first)
        pairs = [(vars(one), vars(two)) for one, two in zip(solver.steps(), solver.steps())]
        self.assertEqual(pairs, [(step, step) for step in first])
        self.assertEqual([vars(step) for step in type(solver)(solver.task).steps()], first)


class LeastSolverTest(StepsCase):
    def check(self, task):
        steps = self.check_steps(LeastSolver(task))
        weights, rows = table(task.measure.matrix), table(task.matrix)
        for step in steps:
            self.assertIs(type(step), Step)
            self.assertEqual(sorted(vars(step)), ["answer", "count", "residual", "square"])
            for vector in space(task.matrix, task.side, step.count):
                self.assertEqual(slow_dot(weights, entries(step.residual), slow_times(rows, vector)), 0)
        return steps

    def test_many(self):
        counts = set()
        for task in samples(371):
            counts.add((task.size, len(self.check(task))))
        self.assertGreaterEqual(counts, {(size, count) for size in range(2, 6) for count in (1, 2, size + 1)})

    def test_the_squares_never_grow(self):
        for task in samples(372):
            squares = [step.square for step in LeastSolver(task).steps()]
            self.assertFalse(any(one.below(two) for one, two in zip(squares, squares[1:])))

    def test_the_example_of_the_document(self):
        steps = self.check(Task.read("2 1; 1 3 | 1 0 | plain"))
        self.assertEqual([str(step.answer) for step in steps], ["0 0", "2/5 0", "3/5 -1/5"])
        self.assertEqual([str(step.square) for step in steps], ["1", "1/5", "0"])

    def test_the_residual_may_stand_still(self):
        steps = self.check(Task(cycle(4), Vector.unit(4, 0), Measure.plain(4)))
        self.assertEqual([str(step.square) for step in steps], ["1", "1", "1", "1", "0"])
        self.assertEqual([str(step.answer) for step in steps], ["0 0 0 0"] * 4 + ["0 0 0 1"])

    def test_the_measure_counts(self):
        matrix, side = Matrix([[2, 1], [1, 3]]), Vector([1, 0])
        plain = self.check(Task(matrix, side, Measure.plain(2)))
        other = self.check(Task(matrix, side, Measure.weights(Ratio(1), Ratio(3))))
        self.assertEqual([str(plain[1].answer), str(other[1].answer)], ["2/5 0", "2/7 0"])

    def test_a_zero_side(self):
        for size in range(2, 6):
            steps = self.check(Task(cycle(size), Vector.zero(size), Measure.plain(size)))
            self.assertEqual(len(steps), 1)
            self.assertEqual((steps[0].answer, steps[0].residual, steps[0].square),
                             (Vector.zero(size), Vector.zero(size), Ratio(0)))

    def test_again(self):
        for task in list(samples(373))[::7]:
            self.check_again(LeastSolver(task))

    def test_a_residual_as_a_side(self):
        task = some_task(source(374), 4, 10 ** 10)
        residual = list(LeastSolver(task).steps())[3].residual
        self.check(Task(task.matrix, residual, task.measure))


class OrthogonalSolverTest(StepsCase):
    def check(self, task):
        steps = self.check_steps(OrthogonalSolver(task))
        weights, rows, side = table(task.measure.matrix), table(task.matrix), entries(task.side)
        polys = Walk(task.matrix, task.measure, task.side).polys
        for step in steps:
            self.assertIs(type(step), Step)
            vectors = space(task.matrix, task.side, step.count) if step.count > 0 else []
            if step.answer is not None:
                self.assertEqual([slow_dot(weights, entries(step.residual), vector) for vector in vectors],
                                 [0] * step.count)
            # The answer by its shares of the powers: their dots with all powers are those of the side.
            conditions = [[slow_dot(weights, slow_times(rows, one), two) for one in vectors] for two in vectors]
            shares = slow_solve(conditions, [slow_dot(weights, side, two) for two in vectors])
            self.assertEqual(step.answer is None, shares is None)
            self.assertEqual(step.answer is None, polys[step.count][0].is_zero)
            if step.answer is None:
                self.assertEqual((step.residual, step.square), (None, None))
        return steps

    def test_many(self):
        missing = set()
        for task in samples(375):
            missing |= {(task.size, step.count) for step in self.check(task) if step.answer is None}
        self.assertGreaterEqual(missing, {(2, 1), (3, 1), (4, 2), (5, 4)})

    def test_no_answer_in_the_middle(self):
        steps = self.check(Task.read("0 1; 1 1 | 1 0 | plain"))
        self.assertEqual([str(step.answer) for step in steps], ["0 0", "None", "-1 1"])
        steps = self.check(Task(cycle(4), Vector.unit(4, 0), Measure.plain(4)))
        self.assertEqual([step.answer is None for step in steps], [False, True, True, True, False])
        # An answer between two places without one.
        steps = self.check(Task.read("0 -1 0 0; 1 0 -1 0; 0 1 0 -1; 0 0 1 0 | 1 0 0 0 | plain"))
        self.assertEqual([step.answer is None for step in steps], [False, True, False, True, False])

    def test_the_measure_decides_where_there_is_an_answer(self):
        matrix, side = Matrix([[0, 1], [1, 1]]), Vector([1, 0])
        steps = self.check(Task(matrix, side, Measure(Matrix([[2, 1], [1, 3]]))))
        self.assertEqual([str(step.answer) for step in steps], ["0 0", "2 0", "-1 1"])

    def test_it_differs_from_the_least_one(self):
        task = Task.read("2 1; 1 3 | 1 0 | plain")
        self.assertEqual([str(step.answer) for step in self.check(task)], ["0 0", "1/2 0", "3/5 -1/5"])

    def test_a_zero_side(self):
        for size in range(2, 6):
            steps = self.check(Task(cycle(size), Vector.zero(size), Measure.plain(size)))
            self.assertEqual([(str(step.answer), str(step.residual), str(step.square)) for step in steps],
                             [(" ".join("0" * size), " ".join("0" * size), "0")])

    def test_again(self):
        for task in list(samples(376))[::7]:
            self.check_again(OrthogonalSolver(task))

    def test_answers_of_small_tasks_by_hand(self):
        task = Task(Matrix([[1, 2], [0, 2]]), vector_of([1, 1]), Measure.plain(2))
        self.assertEqual([str(step.answer) for step in self.check(task)], ["0 0", "2/5 2/5", "0 1/2"])
