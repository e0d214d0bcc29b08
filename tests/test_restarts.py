"""Points 42 and 43: restarts, and the sides that they move."""

from lastrows.matrices import Matrix
from lastrows.measures import Measure
from lastrows.ratios import Ratio
from lastrows.restarts import moving_side, restart
from lastrows.solvers import LeastSolver
from lastrows.spaces import grade
from lastrows.steps import Step
from lastrows.tasks import Task
from lastrows.vectors import Vector
from tests.support import (Case, cycle, described, diagonal, entries, fraction, minus, slow_dot, slow_times,
                           some_base, some_matrix, some_measure, some_singular, some_task, some_vector, source, table)


def skew(size):
    """Returns a matrix whose transpose is its negative, and which has an inverse if the size is even."""
    return Matrix([[(j > i) - (j < i) for j in range(size)] for i in range(size)])


class RestartTest(Case):
    def check(self, task, every, rounds):
        """Checks all that point 42 says of the steps of a restart, and returns them."""
        before = described(task)
        found = restart(task, every=every, rounds=rounds)
        self.assertIs(type(found), tuple)
        first = found[0]
        self.assertEqual((first.count, first.answer, first.residual, first.square),
                         (0, Vector.zero(task.size), task.side, task.measure.norm(task.side)))
        for last, step in zip(found, found[1:]):
            rest = Task(task.matrix, last.residual, task.measure)
            many = min(every, grade(task.matrix, last.residual))
            inner = list(LeastSolver(rest).steps())[many]
            self.assertEqual(step.count, last.count + many)
            self.assert_same(step.answer, last.answer + inner.answer)
        for step in found:
            self.assertIs(type(step), Step)
            residual = minus(entries(task.side), slow_times(table(task.matrix), entries(step.answer)))
            self.assertEqual(entries(step.residual), residual)
            self.assertEqual(fraction(step.square), slow_dot(table(task.measure.matrix), residual, residual))
        self.assertEqual([step.residual.is_zero for step in found[:-1]], [False] * (len(found) - 1))
        self.assertTrue(len(found) == rounds + 1 or found[-1].residual.is_zero)
        self.assertLessEqual(len(found), rounds + 1)
        self.assertEqual(described(restart(task, every=every, rounds=rounds)), described(found))
        self.assertEqual(described(task), before)
        return found

    def test_many(self):
        numbers = source(420)
        for size in range(2, 6):
            for task in (some_task(numbers, size), some_task(numbers, size, 1), some_task(numbers, size, 10 ** 9),
                         Task(some_base(numbers, size), some_vector(numbers, size), Measure.plain(size)),
                         Task(cycle(size), Vector.unit(size, 0), Measure.plain(size))):
                for every in range(1, 6):
                    self.check(task, every, 0)
                    self.check(task, every, 1)
                for every in (1, 2):
                    self.check(task, every, 2)

    def test_one_round_if_rounds_is_left_out(self):
        task = some_task(source(421), 3)
        for every in range(1, 6):
            self.assertEqual(described(restart(task, every=every)), described(restart(task, every=every, rounds=1)))
        self.assertEqual(len(restart(task, every=1)), 2)

    def test_large_numbers(self):
        numbers = source(422)
        for size in range(2, 6):
            task = some_task(numbers, size, 10 ** 20)
            for every in range(1, 6):
                self.assert_made_anew(self.check(task, every, 1)[-1].residual)

    def test_by_hand(self):
        task = Task.read("2 1; 1 3 | 1 0 | plain")
        steps = self.check(task, 1, 2)
        self.assertEqual([str(step.answer) for step in steps], ["0 0", "2/5 0", "12/25 -4/25"])
        self.assertEqual([str(step.square) for step in steps], ["1", "1/5", "1/25"])
        self.assertEqual([step.count for step in steps], [0, 1, 2])

    def test_a_zero_side(self):
        for size in range(2, 6):
            task = Task(cycle(size), Vector.zero(size), Measure.plain(size))
            for every, rounds in [(1, 0), (1, 1), (5, 1), (1, 2), (2, 2)]:
                self.assertEqual([step.count for step in self.check(task, every, rounds)], [0])

    def test_a_round_that_ends_with_a_zero_residual(self):
        # The side has the grade 1, so one round adds 1, whatever `every` is, and there is no second one.
        task = Task(diagonal(2, 3, 4), Vector([0, 5, 0]), Measure.plain(3))
        for every, rounds in [(1, 1), (2, 1), (5, 1), (1, 2), (2, 2)]:
            steps = self.check(task, every, rounds)
            self.assertEqual([(step.count, str(step.answer)) for step in steps], [(0, "0 0 0"), (1, "0 5/3 0")])
        task = Task(diagonal(2, 3, 3, 4), Vector([1, 5, 1, 0]), Measure.plain(4))
        for every, counts in [(1, [0, 1]), (2, [0, 2]), (3, [0, 2]), (5, [0, 2])]:
            self.assertEqual([step.count for step in self.check(task, every, 1)], counts)
        self.assertEqual([step.count for step in self.check(task, 2, 2)], [0, 2])
        self.assertEqual([step.count for step in self.check(task, 1, 2)], [0, 1, 2])

    def test_every_above_the_size(self):
        task = some_task(source(423), 2)
        for every in (2, 3, 4, 5):
            steps = self.check(task, every, 1)
            self.assertEqual([step.count for step in steps], [0, 2])
            self.assertTrue(steps[-1].residual.is_zero)

    def test_a_later_round_with_a_lesser_grade(self):
        # The residual of the first round is only multiplied by the matrix, so the second round adds 1 and not 2.
        measure = Measure(Matrix([[20, 0, 3], [0, 20, -3], [3, -3, 1]]))
        steps = self.check(Task(diagonal(1, 2, 3), Vector([1, 1, 1]), measure), 2, 2)
        self.assertEqual([(step.count, str(step.residual)) for step in steps], [(0, "1 1 1"), (2, "0 0 1"), (3, "0 0 0")])
        task = Task(Matrix([[0, 0, -1], [1, 0, 0], [0, 1, 0]]), Vector([1, 0, 0]), Measure.plain(3))
        self.assertEqual([step.count for step in self.check(task, 2, 2)], [0, 2, 4])

    def test_singular(self):
        numbers = source(424)
        for size in range(2, 6):
            for matrix in (some_singular(numbers, size), Matrix.zero(size, size)):
                for side in (some_vector(numbers, size), Vector.zero(size), matrix * some_vector(numbers, size)):
                    task = Task(matrix, side, some_measure(numbers, size))
                    for every, rounds in [(1, 0), (1, 1), (5, 1), (2, 2)]:
                        self.assert_singular(matrix, restart, task, every=every, rounds=rounds)

    def test_every_and_rounds_are_passed_by_keyword(self):
        task = Task.read("2 1; 1 3 | 1 0 | plain")
        with self.assertRaises(TypeError):
            restart(task, 1)
        with self.assertRaises(TypeError):
            restart(task)


class MovingSideTest(Case):
    def check(self, a, measure):
        """Checks the side against the order of point 43, and returns it."""
        found = moving_side(a, measure)
        size = a.height
        weights, rows = table(measure.matrix), table(a)
        sides = [Vector.unit(size, k) for k in range(size)]
        sides += [Vector.unit(size, i) + Vector.unit(size, j) for i in range(size) for j in range(i + 1, size)]
        moved = [side for side in sides if slow_dot(weights, slow_times(rows, entries(side)), entries(side)) != 0]
        self.assertEqual(found, moved[0] if moved else None)
        self.assertEqual(found is None, measure.adjoint(a) == -a)
        self.assertEqual(described(moving_side(a, measure)), described(found))
        return found

    def test_many(self):
        numbers = source(430)
        for size in range(2, 6):
            for measure in (Measure.plain(size), some_measure(numbers, size)):
                for most in (1, 1, 9):
                    self.check(some_matrix(numbers, size, size, most), measure)

    def test_a_matrix_whose_adjoint_is_its_negative(self):
        numbers = source(431)
        for size in range(2, 6):
            self.assertIsNone(self.check(skew(size), Measure.plain(size)))
            self.assertIsNone(self.check(Matrix.zero(size, size), some_measure(numbers, size)))
            measure = some_measure(numbers, size)
            self.assertIsNone(self.check(Measure(measure.matrix).adjoint(skew(size)) - skew(size), measure))
        # It is skew in the plain measure, but not in another one.
        self.assertIsNotNone(self.check(skew(3), Measure.weights(Ratio(1), Ratio(2), Ratio(3))))

    def test_a_skew_matrix_leaves_every_residual_as_it_is(self):
        numbers = source(432)
        for size in (2, 4):
            task = Task(skew(size), some_vector(numbers, size), Measure.plain(size))
            for step in restart(task, every=1, rounds=2):
                self.assert_same(step.residual, task.side)
        task = Task(skew(4) + diagonal(0, 0, 0, 5), Vector.unit(4, 3), Measure.plain(4))
        self.assertNotEqual(restart(task, every=1)[1].residual, task.side)

    def test_unit_vectors_by_their_place(self):
        for size in range(2, 6):
            for place in range(size):
                a = skew(size) + diagonal(*[1 if k >= place else 0 for k in range(size)])
                self.assert_same(self.check(a, Measure.plain(size)), Vector.unit(size, place))

    def test_sums_of_two_unit_vectors_in_their_order(self):
        for size in range(2, 6):
            places = [(i, j) for i in range(size) for j in range(i + 1, size)]
            for low, high in places:
                # All later sums move, too.
                rows = [[1 if (i, j) in places and (i, j) >= (low, high) else 0 for j in range(size)]
                        for i in range(size)]
                self.assert_same(self.check(Matrix(rows), Measure.plain(size)),
                                 Vector.unit(size, low) + Vector.unit(size, high))
