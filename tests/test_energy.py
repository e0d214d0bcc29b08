"""Point 40: the solver for the least energy."""

from lastrows.energy import EnergySolver
from lastrows.errors import NotPositive, NotSelfAdjoint
from lastrows.inverses import inverse
from lastrows.matrices import Matrix
from lastrows.measures import Measure
from lastrows.ratios import Ratio
from lastrows.solvers import LeastSolver, Solver
from lastrows.steps import EnergyStep, Step
from lastrows.tasks import Task
from lastrows.vectors import Vector
from tests.support import (Case, cycle, diagonal, entries, fraction, minus, slow_dot, slow_solve, slow_times,
                           some_matrix, some_measure, some_singular, some_vector, source, space, table)
from tests.test_solvers import StepsCase


def energetic(measure, positive):
    """Returns the matrix whose product with that of the measure is the positive matrix."""
    return inverse(measure.matrix) * positive


def samples(seed):
    numbers = source(seed)
    for size in range(2, 6):
        for measure in (Measure.plain(size), some_measure(numbers, size)):
            for most in (1, 4):
                matrix = energetic(measure, some_measure(numbers, size, most).matrix)
                for side in (some_vector(numbers, size), Vector.unit(size, 0), Vector.zero(size)):
                    yield Task(matrix, side, measure)
            yield Task(Matrix.identity(size) * Ratio(2, 3), some_vector(numbers, size), measure)
        yield Task(diagonal(*[1 + k // 2 for k in range(size)]), some_vector(numbers, size), Measure.plain(size))
        measure = some_measure(numbers, size, 10 ** 9)
        yield Task(energetic(measure, some_measure(numbers, size).matrix), some_vector(numbers, size, 10 ** 20), measure)


class EnergySolverTest(StepsCase):
    def check(self, task):
        """Checks all that points 37 and 40 say of the steps, and returns them."""
        steps = self.check_steps(EnergySolver(task))
        rows, weights = table(task.matrix), table(task.measure.matrix)
        solution = slow_solve(rows, entries(task.side))
        for step in steps:
            self.assertIs(type(step), EnergyStep)
            self.assertIsInstance(step, Step)
            self.assertEqual(sorted(vars(step)), ["answer", "count", "energy", "error", "residual", "square"])
            missing = minus(solution, entries(step.answer))
            self.assertEqual(fraction(step.energy), slow_dot(weights, slow_times(rows, missing), missing))
            self.assertEqual(fraction(step.error), slow_dot(weights, missing, missing))
            # The energy is least where a move within the space changes it by the square of the move alone.
            for vector in space(task.matrix, task.side, step.count) if step.count > 0 else []:
                self.assertEqual(slow_dot(weights, slow_times(rows, missing), vector), 0)
        return steps

    def test_many(self):
        counts = set()
        for task in samples(400):
            counts.add((task.size, len(self.check(task))))
        self.assertGreaterEqual(counts, {(size, count) for size in range(2, 6) for count in (1, 2, size + 1)})

    def test_the_energy_falls(self):
        for task in samples(401):
            energies = [step.energy for step in EnergySolver(task).steps()]
            self.assertTrue(all(two.below(one) for one, two in zip(energies, energies[1:])))

    def test_by_hand(self):
        steps = self.check(Task.read("2 1; 1 3 | 1 0 | plain"))
        self.assertEqual([str(step.answer) for step in steps], ["0 0", "1/2 0", "3/5 -1/5"])
        self.assertEqual([str(step.residual) for step in steps], ["1 0", "0 -1/2", "0 0"])
        self.assertEqual([str(step.square) for step in steps], ["1", "1/4", "0"])
        self.assertEqual([str(step.energy) for step in steps], ["3/5", "1/10", "0"])
        self.assertEqual([str(step.error) for step in steps], ["2/5", "1/20", "0"])

    def test_a_measure_that_is_not_plain(self):
        # This matrix is its own adjoint in this measure only.
        task = Task(Matrix([[2, 4], [1, 3]]), Vector([1, 0]), Measure.weights(Ratio(1), Ratio(4)))
        steps = self.check(task)
        self.assertEqual([str(step.answer) for step in steps], ["0 0", "1/2 0", "3/2 -1/2"])
        least = list(LeastSolver(task).steps())
        self.assertNotEqual(str(least[1].answer), "1/2 0")

    def test_a_zero_side(self):
        steps = self.check(Task(diagonal(1, 2, 3), Vector.zero(3), Measure.plain(3)))
        self.assertEqual([(str(step.energy), str(step.error), str(step.square)) for step in steps], [("0", "0", "0")])

    def test_again(self):
        for task in list(samples(402))[::5]:
            self.check_again(EnergySolver(task))


class RefusedTest(Case):
    def check_not_positive(self, task):
        error = self.caught(NotPositive, EnergySolver, task)
        weights, rows, witness = table(task.measure.matrix), table(task.matrix), entries(error.witness)
        self.assertEqual(len(witness), task.size)
        self.assertTrue(any(witness))
        self.assertLessEqual(slow_dot(weights, slow_times(rows, witness), witness), 0)
        self.assert_same(self.caught(NotPositive, EnergySolver, task).witness, error.witness)

    def test_the_task(self):
        task = Task.read("2 1; 1 3 | 1 0 | plain")
        solver = EnergySolver(task)
        self.assertIs(solver.task, task)
        self.assertEqual(EnergySolver.__bases__, (Solver,))

    def test_singular_comes_first(self):
        numbers = source(403)
        for size in range(2, 6):
            base = some_singular(numbers, size)
            # Neither its own adjoint; its own adjoint, but not positive; its own adjoint and never negative.
            for matrix in (base, diagonal(0, -1, *range(2, size)), base.transpose * base, Matrix.zero(size, size)):
                for side in (some_vector(numbers, size), Vector.zero(size), matrix * some_vector(numbers, size)):
                    for measure in (Measure.plain(size), some_measure(numbers, size)):
                        self.assert_singular(matrix, EnergySolver, Task(matrix, side, measure))

    def test_not_self_adjoint(self):
        numbers = source(404)
        for size in range(2, 6):
            for _ in range(5):
                a = some_matrix(numbers, size, size, 1) + Matrix.identity(size) * 7
                measure = some_measure(numbers, size)
                # The adjoint, column by column, from the plain meaning of point 12.
                weights, rows = table(measure.matrix), table(a)
                wanted = [list(row) for row in zip(*rows)]
                columns = [slow_solve(weights, [sum(wanted[i][k] * weights[k][j] for k in range(size))
                                                for i in range(size)]) for j in range(size)]
                places = [(i, j) for i in range(size) for j in range(size) if columns[j][i] != rows[i][j]]
                task = Task(a, Vector.unit(size, 0), measure)
                self.assert_refused(NotSelfAdjoint, {"first": places[0][0], "second": places[0][1]}, EnergySolver, task)

    def test_the_first_place_row_by_row(self):
        for matrix, place in [("1 2 0; 3 1 0; 0 0 1", (0, 1)), ("5 1 2; 1 5 3; 4 3 5", (0, 2)),
                              ("5 1 2; 1 5 3; 2 4 5", (1, 2)), ("-5 1 2; 1 5 3; 2 4 5", (1, 2))]:
            task = Task.read(f"{matrix} | 0 0 0 | plain")
            self.assert_refused(NotSelfAdjoint, {"first": place[0], "second": place[1]}, EnergySolver, task)
        # In other measures the place may lie on the diagonal or below it.
        task = Task(Matrix([[1, 1], [0, 2]]), Vector([1, 0]), Measure(Matrix([[2, 1], [1, 1]])))
        self.assert_refused(NotSelfAdjoint, {"first": 0, "second": 0}, EnergySolver, task)
        task = Task(Matrix([[1, 0], [1, 1]]), Vector([1, 0]), Measure.plain(2))
        self.assert_refused(NotSelfAdjoint, {"first": 0, "second": 1}, EnergySolver, task)

    def test_self_adjoint_in_the_plain_measure_only(self):
        matrix = Matrix([[2, 1], [1, 3]])
        self.assertEqual(len(list(EnergySolver(Task(matrix, Vector([1, 0]), Measure.plain(2))).steps())), 3)
        other = Task(matrix, Vector([1, 0]), Measure.weights(Ratio(1), Ratio(4)))
        self.assert_refused(NotSelfAdjoint, {"first": 0, "second": 1}, EnergySolver, other)

    def test_not_positive(self):
        numbers = source(405)
        self.check_not_positive(Task.read("-1 0; 0 1 | 0 0 | plain"))
        self.check_not_positive(Task.read("1 0; 0 -1 | 1 0 | plain"))
        self.check_not_positive(Task.read("0 1; 1 0 | 1 0 | plain"))
        self.check_not_positive(Task.read("1 2; 2 1 | 1 0 | plain"))
        for size in range(2, 6):
            for measure in (Measure.plain(size), some_measure(numbers, size)):
                positive = some_measure(numbers, size).matrix
                self.check_not_positive(Task(energetic(measure, -positive), Vector.zero(size), measure))
                down = Matrix.identity(size) * (sum(fraction(positive[k, k]) for k in range(size)).__ceil__() + 1)
                self.check_not_positive(Task(energetic(measure, positive - down), Vector.unit(size, 0), measure))

    def test_a_turn_is_not_its_own_adjoint(self):
        self.assert_refused(NotSelfAdjoint, {"first": 0, "second": 1}, EnergySolver,
                            Task(cycle(3), Vector([1, 0, 0]), Measure.plain(3)))
