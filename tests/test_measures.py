"""Points 11 and 12: measures."""

from lastrows.errors import Empty, NotPositive, NotSquare, NotSymmetric, SizeMismatch
from lastrows.inverses import determinant
from lastrows.matrices import Matrix
from lastrows.measures import Measure
from lastrows.ratios import Ratio
from lastrows.vectors import Vector
from tests.support import Case, some_matrix, some_measure, some_vector, source


class MakingTest(Case):
    def check(self, measure):
        """Checks the triangle and the pivots."""
        size = measure.matrix.height
        self.assertEqual(measure.size, size)
        self.assertIs(type(measure.pivots), tuple)
        self.assertEqual([pivot.sign for pivot in measure.pivots], [1] * size)
        for i in range(size):
            self.assert_same(measure.triangle[i, i], Ratio(1))
            for j in range(i + 1, size):
                self.assertTrue(measure.triangle[i, j].is_zero)
        again = measure.triangle * Matrix.diagonal(*measure.pivots) * measure.triangle.transpose
        self.assert_same(again, measure.matrix)

    def check_refused(self, matrix, call=None):
        first, second = [self.caught(NotPositive, call or (lambda: Measure(matrix))) for _ in range(2)]
        self.assertEqual(vars(first), {"witness": first.witness, "word": "positive"})
        self.assertIs(type(first.witness), Vector)
        self.assertFalse(first.witness.is_zero)
        self.assertNotEqual(first.witness.dot(matrix * first.witness).sign, 1)
        self.assert_same(first.witness, second.witness)

    def test_triangle_and_pivots(self):
        measure = Measure(Matrix([[2, 1], [1, 3]]))
        self.assertEqual(str(measure.triangle), "1 0; 1/2 1")
        self.assertEqual([str(pivot) for pivot in measure.pivots], ["2", "5/2"])
        self.check(measure)
        self.check(Measure(Matrix([[5]], 3)))
        matrix = Matrix([[2, 1], [1, 3]])
        self.assertIs(Measure(matrix).matrix, matrix)

    def test_triangle_and_pivots_of_many_sizes(self):
        numbers = source(110)
        for size in range(1, 11):
            self.check(Measure.plain(size))
            for most in (3, 10 ** 20):
                self.check(some_measure(numbers, size, most))

    def test_numbers_of_a_hundred_digits(self):
        numbers = source(111)
        measure = some_measure(numbers, 10, 10 ** 49)
        self.check(measure)
        matrix = Matrix([[10 ** 99, 10 ** 98 + 1], [10 ** 98 + 1, 10 ** 97 * 7]], 10 ** 99 - 1)
        self.check(Measure(matrix))

    def test_not_square(self):
        self.assert_refused(NotSquare, {"height": 1, "width": 2}, Measure, Matrix([[1, 2]]))
        self.assert_refused(NotSquare, {"height": 3, "width": 2}, Measure, Matrix.zero(3, 2))

    def test_the_first_place_that_is_not_symmetric(self):
        for rows, first, second in [
            ([[1, 2], [3, 1]], 0, 1),
            ([[1, 0, 5], [0, 1, 0], [4, 0, 1]], 0, 2),
            ([[1, 0, 0], [0, 1, 7], [0, 8, 1]], 1, 2),
            ([[1, 0, 5], [9, 1, 7], [4, 8, 1]], 0, 1),
            ([[-1, 0, 0], [0, -1, 7], [0, 8, -1]], 1, 2),
        ]:
            self.assert_refused(NotSymmetric, {"first": first, "second": second}, Measure, Matrix(rows))

    def test_not_positive(self):
        for rows in [
            [[0]], [[-3]], [[1, 2], [2, 4]], [[1, 2], [2, 3]], [[0, 1], [1, 0]], [[0, 0], [0, 1]], [[1, 0], [0, -1]],
            [[2, 1, 0], [1, 2, 1], [0, 1, 0]], [[1, 1, 1], [1, 1, 1], [1, 1, 1]], [[1, 0, 0], [0, 0, 0], [0, 0, 1]],
            [[4, 2, 2], [2, 1, 3], [2, 3, 9]],
        ]:
            self.check_refused(Matrix(rows))
            self.check_refused(Matrix(rows, 7))

    def test_not_positive_of_many_sizes(self):
        numbers = source(112)
        refused = 0
        for _ in range(200):
            size = numbers.randint(1, 10)
            half = some_matrix(numbers, size, size, 5)
            matrix = half + half.transpose + Matrix.identity(size) * numbers.randint(0, 30)
            try:
                self.check(Measure(matrix))
            except NotPositive:
                self.check_refused(matrix)
                refused += 1
        self.assertGreater(refused, 40)
        self.assertLess(refused, 160)

    def test_a_flat_matrix_is_refused(self):
        numbers = source(113)
        for size in range(2, 11):
            half = some_matrix(numbers, size - 1, size)
            self.check_refused(half.transpose * half)

    def test_multiples_that_are_refused(self):
        measure = Measure(Matrix([[2, 1], [1, 3]]))
        for factor in (0, -1, Ratio(0), Ratio(-1, 3)):
            self.check_refused(measure.matrix * factor, lambda: measure * factor)
            self.check_refused(measure.matrix * factor, lambda: factor * measure)


class WorkingTest(Case):
    def test_dot_and_norm(self):
        measure = Measure(Matrix([[2, 1], [1, 3]], 2))
        self.assertEqual(str(measure.dot(Vector([1, 2]), Vector([3, -1]))), "5/2")
        self.assertEqual(str(measure.norm(Vector([1, -1], 3))), "1/6")
        self.assertEqual(str(measure.norm(Vector.zero(2))), "0")
        numbers = source(120)
        for size in range(1, 8):
            measure = some_measure(numbers, size)
            u, v = some_vector(numbers, size), some_vector(numbers, size)
            self.assert_same(measure.dot(u, v), u.dot(measure.matrix * v))
            self.assert_same(measure.norm(u), measure.dot(u, u))

    def test_adjoint(self):
        self.assertEqual(str(Measure(Matrix([[2, 0], [0, 4]])).adjoint(Matrix([[0, 2], [1, 0]]))), "0 2; 1 0")
        numbers = source(121)
        for size in range(1, 11):
            measure, a = some_measure(numbers, size), some_matrix(numbers, size, size)
            adjoint = measure.adjoint(a)
            self.assert_same(measure.matrix * adjoint, a.transpose * measure.matrix)
            self.assert_same(measure.adjoint(adjoint), a)
            u, v = some_vector(numbers, size), some_vector(numbers, size)
            self.assert_same(measure.dot(a * u, v), measure.dot(u, adjoint * v))
            self.assert_same(Measure.plain(size).adjoint(a), a.transpose)
            self.assert_made_anew(adjoint)

    def test_sums_and_multiples(self):
        numbers = source(122)
        for size in range(1, 8):
            first, second = some_measure(numbers, size), some_measure(numbers, size)
            self.assert_same((first + second).matrix, first.matrix + second.matrix)
            self.assertIs(type(first + second), Measure)
            for factor in (1, 3, Ratio(2, 5)):
                self.assert_same((first * factor).matrix, first.matrix * factor)
                self.assert_same((factor * first).matrix, first.matrix * factor)
                self.assert_same(factor * first, first * factor)
            self.assert_same(first + first, first * 2)

    def test_sums_of_other_sizes(self):
        left, right = Measure.plain(2), Measure.plain(3)
        self.assert_refused(SizeMismatch, {"left": 2, "right": 3}, lambda: left + right)
        self.assert_refused(SizeMismatch, {"left": 3, "right": 2}, lambda: right + left)

    def test_equality(self):
        matrix = Matrix([[2, 1], [1, 3]])
        self.assert_same(Measure(matrix), Measure(Matrix([[4, 2], [2, 6]], 2)))
        self.assert_other(Measure(matrix), Measure.plain(2))
        self.assert_other(Measure.plain(3), Measure.plain(2))
        for other in (matrix, 1, None, "2 1; 1 3", Ratio(1)):
            self.assert_other(Measure(matrix), other)

    def test_operands_are_unchanged(self):
        measure = Measure(Matrix([[2, 1], [1, 3]], 5))
        before = dict(vars(measure))
        measure + measure
        measure * 2
        measure.adjoint(Matrix([[1, 2], [3, 4]]))
        self.assertEqual(vars(measure), before)


class PlainTest(Case):
    def test_plain(self):
        for size in range(1, 11):
            self.assert_same(Measure.plain(size).matrix, Matrix.identity(size))
            self.assertEqual(Measure.plain(size).size, size)

    def test_weights(self):
        self.assert_same(Measure.weights(Ratio(1, 2), Ratio(3)).matrix, Matrix([[1, 0], [0, 6]], 2))
        self.assert_same(Measure.weights(Ratio(1), Ratio(1)), Measure.plain(2))
        ten = [Ratio(k + 1, 11 - k) for k in range(10)]
        measure = Measure.weights(*ten)
        self.assertEqual([measure.matrix[k, k] for k in range(10)], ten)
        self.assertEqual(measure.pivots, tuple(ten))
        self.assertEqual(measure.size, 10)

    def test_bad_weights(self):
        self.assert_refused(Empty, {}, Measure.weights)
        for bad in (Ratio(0), Ratio(-1, 5)):
            for weights in ([bad], [bad, Ratio(1)], [Ratio(1), bad], [Ratio(2), bad, Ratio(3), bad]):
                first, second = [self.caught(NotPositive, Measure.weights, *weights) for _ in range(2)]
                self.assertFalse(first.witness.is_zero)
                square = first.witness.dot(Matrix.diagonal(*weights) * first.witness)
                self.assertNotEqual(square.sign, 1)
                self.assert_same(first.witness, second.witness)
