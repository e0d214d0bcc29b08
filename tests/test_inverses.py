"""Point 10: determinants and inverses."""

from lastrows.errors import NotSquare, Singular
from lastrows.inverses import determinant, inverse
from lastrows.matrices import Matrix
from lastrows.ratios import Ratio
from lastrows.vectors import Vector
from tests.support import Case, fraction, slow_determinant, some_matrix, source, table

ZEROS_AHEAD = [
    Matrix([[0, 1], [1, 0]]),
    Matrix([[0, 2, 1], [0, 0, 3], [5, 1, 1]], 7),
    Matrix([[0, 0, 0, 1], [0, 0, 1, 0], [0, 1, 0, 0], [1, 0, 0, 0]]),
    Matrix([[0, 1, 0], [0, 0, 1], [1, 0, 0]]),
    Matrix([[1, 1, 1], [1, 1, 2], [1, 2, 3]], -2),
]


class DeterminantTest(Case):
    def test_small_ones(self):
        self.assertEqual(str(determinant(Matrix([[-7]], 3))), "-7/3")
        self.assertEqual(str(determinant(Matrix([[1, 2], [3, 4]], 2))), "-1/2")
        self.assertEqual(str(determinant(Matrix.zero(3, 3))), "0")
        self.assertEqual(str(determinant(Matrix.identity(30))), "1")
        self.assertIs(type(determinant(Matrix([[1, 2], [2, 4]]))), Ratio)

    def test_leading_zeros_on_the_diagonal(self):
        for matrix in ZEROS_AHEAD:
            self.assertEqual(fraction(determinant(matrix)), slow_determinant(table(matrix)))
        self.assertEqual([str(determinant(matrix)) for matrix in ZEROS_AHEAD], ["-1", "30/343", "1", "1", "1/8"])

    def test_against_the_expansion_by_the_first_row(self):
        numbers = source(100)
        for size in range(1, 6):
            for most in (1, 2, 9, 10 ** 20):
                for _ in range(8):
                    matrix = some_matrix(numbers, size, size, most)
                    self.assertEqual(fraction(determinant(matrix)), slow_determinant(table(matrix)))

    def test_products_and_transposes(self):
        numbers = source(101)
        for size in range(1, 9):
            for most in (1, 9, 10 ** 19):
                a, b = some_matrix(numbers, size, size, most), some_matrix(numbers, size, size, most)
                self.assert_same(determinant(a * b), determinant(a) * determinant(b))
                self.assert_same(determinant(a.transpose), determinant(a))
                self.assert_same(determinant(-a), determinant(a) * Ratio((-1) ** size))

    def test_thirty_rows_and_columns(self):
        matrix = some_matrix(source(102), 30, 30, 10 ** 20)
        self.assert_same(determinant(matrix), determinant(matrix.transpose))
        self.assertFalse(determinant(matrix).is_zero)

    def test_not_square(self):
        self.assert_refused(NotSquare, {"height": 2, "width": 3}, determinant, Matrix.zero(2, 3))
        self.assert_refused(NotSquare, {"height": 3, "width": 1}, determinant, Matrix.zero(3, 1))


class InverseTest(Case):
    def check(self, matrix):
        found = inverse(matrix)
        one = Matrix.identity(matrix.height)
        self.assert_same(found * matrix, one)
        self.assert_same(matrix * found, one)
        self.assert_same(inverse(matrix), found)
        self.assert_made_anew(found)

    def check_singular(self, matrix):
        first, second = [self.caught(Singular, inverse, matrix) for _ in range(2)]
        self.assertEqual(vars(first), {"witness": first.witness, "word": "singular"})
        self.assertIs(type(first.witness), Vector)
        self.assertFalse(first.witness.is_zero)
        self.assertTrue((matrix * first.witness).is_zero)
        self.assert_same(first.witness, second.witness)

    def test_small_ones(self):
        self.assertEqual(str(inverse(Matrix([[1, 2], [3, 4]], 2))), "-4 2; 3 -1")
        self.assertEqual(str(inverse(Matrix([[-7]], 3))), "-3/7")
        self.assert_same(inverse(Matrix.identity(4)), Matrix.identity(4))

    def test_leading_zeros_on_the_diagonal(self):
        for matrix in ZEROS_AHEAD:
            self.check(matrix)

    def test_both_sides(self):
        numbers = source(103)
        for size in range(1, 9):
            for most in (1, 2, 9, 10 ** 20):
                for _ in range(5):
                    matrix = some_matrix(numbers, size, size, most)
                    if determinant(matrix).is_zero:
                        self.check_singular(matrix)
                    else:
                        self.check(matrix)

    def test_thirty_rows_and_columns(self):
        self.check(some_matrix(source(104), 30, 30, 10 ** 20))

    def test_singular(self):
        numbers = source(105)
        self.check_singular(Matrix([[0]]))
        self.check_singular(Matrix([[1, 2], [2, 4]], 3))
        self.check_singular(Matrix([[0, 0, 1], [0, 0, 2], [0, 1, 0]]))
        for size in range(2, 9):
            self.check_singular(Matrix.zero(size, size))
            self.check_singular(some_matrix(numbers, size, size - 1) * some_matrix(numbers, size - 1, size))

    def test_not_square_comes_first(self):
        self.assert_refused(NotSquare, {"height": 2, "width": 3}, inverse, Matrix.zero(2, 3))
        self.assert_refused(NotSquare, {"height": 3, "width": 2}, inverse, Matrix.zero(3, 2))
