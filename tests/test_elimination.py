"""Points 9 and 10: linear systems and ranks."""

from fractions import Fraction

from lastrows.elimination import Solution, rank, solve
from lastrows.errors import SizeMismatch
from lastrows.matrices import Matrix
from lastrows.ratios import Ratio
from lastrows.vectors import Vector
from tests.support import Case, entries, slow_rank, some_matrix, some_vector, source, table


def thin_matrix(numbers, height, width, most):
    """Returns a matrix of a low rank: a product of a narrow and a flat one."""
    middle = numbers.randint(1, min(height, width))
    return some_matrix(numbers, height, middle, most) * some_matrix(numbers, middle, width, most)


class SolveTest(Case):
    def check(self, matrix, vector):
        """Checks all that point 9 says of a solution, and returns it."""
        found = solve(matrix, vector)
        self.assertIs(type(found), Solution)
        self.assertIs(type(found.kernel), tuple)
        self.assertEqual((found.answer is None), (found.bar is not None))
        known = slow_rank(table(matrix))
        both = slow_rank([row + [entry] for row, entry in zip(table(matrix), entries(vector))])
        self.assertEqual(found.bar is None, known == both)
        if found.bar is None:
            self.assertEqual(len(found.answer), matrix.width)
            self.assert_same(matrix * found.answer, vector)
        else:
            self.assertEqual(len(found.bar), matrix.height)
            self.assertTrue((matrix.transpose * found.bar).is_zero)
            self.assert_same(found.bar.dot(vector), Ratio(1))
        self.assertEqual(len(found.kernel), matrix.width - known)
        for z in found.kernel:
            self.assertEqual(len(z), matrix.width)
            self.assertTrue((matrix * z).is_zero)
        if found.kernel:
            self.assertEqual(slow_rank([entries(z) for z in found.kernel]), len(found.kernel))
        return found

    def test_one_answer(self):
        found = self.check(Matrix([[2, 1], [1, 3]]), Vector([1, 0]))
        self.assertEqual(str(found.answer), "3/5 -1/5")
        self.assertEqual(found.kernel, ())
        found = self.check(Matrix([[1, 0], [0, 1], [1, 1]], 2), Vector([1, 2, 3], 4))
        self.assertEqual(str(found.answer), "1/2 1")
        self.assertEqual(found.kernel, ())

    def test_many_answers(self):
        self.assertEqual(len(self.check(Matrix([[1, 2], [2, 4]]), Vector([1, 2])).kernel), 1)
        self.assertEqual(len(self.check(Matrix([[0, 1, 2, 3]], 5), Vector([1], 7)).kernel), 3)
        self.assertEqual(len(self.check(Matrix([[0, 0, 1], [0, 0, 2]]), Vector([3, 6])).kernel), 2)

    def test_no_answer(self):
        self.assertEqual(len(self.check(Matrix([[1, 2], [2, 4]]), Vector([1, 3])).kernel), 1)
        self.assertEqual(self.check(Matrix([[1], [1]], 3), Vector([1, 2], 5)).kernel, ())
        self.check(Matrix([[0, 0, 1], [0, 0, 2]]), Vector([3, 7], 11))

    def test_zero_matrices(self):
        for height, width in [(1, 1), (2, 3), (3, 2), (30, 30)]:
            matrix = Matrix.zero(height, width)
            found = self.check(matrix, Vector.zero(height))
            self.assertEqual(len(found.kernel), width)
            self.check(matrix, Vector.unit(height, height - 1))

    def test_zero_side(self):
        found = self.check(Matrix([[1, 2], [3, 5]]), Vector.zero(2))
        self.assertTrue(found.answer.is_zero)

    def test_any_height_and_width(self):
        numbers = source(9)
        for _ in range(300):
            height, width = numbers.randint(1, 7), numbers.randint(1, 7)
            most = numbers.choice([1, 3, 10 ** 20])
            matrix = numbers.choice([some_matrix, thin_matrix])(numbers, height, width, most)
            self.check(matrix, some_vector(numbers, height, most))
            self.check(matrix, matrix * some_vector(numbers, width, most))

    def test_thirty_rows_and_columns(self):
        numbers = source(90)
        full = some_matrix(numbers, 30, 30, 10 ** 20 - 1)
        self.assertEqual(self.check(full, some_vector(numbers, 30, 10 ** 20 - 1)).kernel, ())
        low = some_matrix(numbers, 30, 12) * some_matrix(numbers, 12, 30)
        self.assertEqual(len(self.check(low, some_vector(numbers, 30)).kernel), 18)
        self.assertEqual(len(self.check(low, low * some_vector(numbers, 30)).kernel), 18)

    def test_size_mismatch(self):
        self.assert_refused(SizeMismatch, {"left": 2, "right": 3}, solve, Matrix.zero(2, 3), Vector.zero(3))
        self.assert_refused(SizeMismatch, {"left": 3, "right": 2}, solve, Matrix.identity(3), Vector.zero(2))

    def test_the_same_twice(self):
        for matrix, vector in [(Matrix([[1, 2, 3]]), Vector([1])), (Matrix([[1], [1]]), Vector([1, 2]))]:
            one, two = solve(matrix, vector), solve(matrix, vector)
            self.assertEqual((one.answer, one.kernel, one.bar), (two.answer, two.kernel, two.bar))

    def test_arguments_are_unchanged(self):
        matrix, vector = Matrix([[0, 2], [3, 4]], 5), Vector([1, 2], 3)
        solve(matrix, vector)
        rank(matrix)
        self.assertEqual((matrix.tops, matrix.bottom), (((0, 2), (3, 4)), 5))
        self.assertEqual((vector.tops, vector.bottom), ((1, 2), 3))


class SolutionTest(Case):
    def test_made_directly_from_a_list(self):
        answer, bar = Vector([1]), Vector([2])
        kernel = [Vector([1, 0]), Vector([0, 1])]
        found = Solution(answer, kernel, bar)
        kernel.clear()
        self.assertIs(found.answer, answer)
        self.assertIs(found.bar, bar)
        self.assertEqual(found.kernel, (Vector([1, 0]), Vector([0, 1])))
        self.assertEqual(vars(Solution(None, (), None)), {"answer": None, "kernel": (), "bar": None})


class RankTest(Case):
    def test_small_ones(self):
        self.assertEqual(rank(Matrix.zero(3, 2)), 0)
        self.assertEqual(rank(Matrix([[0, 0, 5]])), 1)
        self.assertEqual(rank(Matrix([[1, 2], [2, 4]], 3)), 1)
        self.assertEqual(rank(Matrix([[0, 1], [1, 0]])), 2)
        self.assertEqual(rank(Matrix.identity(30)), 30)

    def test_against_elimination_by_hand(self):
        numbers = source(10)
        for _ in range(200):
            height, width = numbers.randint(1, 8), numbers.randint(1, 8)
            matrix = numbers.choice([some_matrix, thin_matrix])(numbers, height, width, numbers.choice([1, 9, 10 ** 20]))
            self.assertEqual(rank(matrix), slow_rank(table(matrix)))
            self.assertEqual(rank(matrix.transpose), rank(matrix))

    def test_thirty_rows_and_columns(self):
        numbers = source(11)
        for middle in (1, 7, 29, 30):
            matrix = some_matrix(numbers, 30, middle, 10 ** 9) * some_matrix(numbers, middle, 30, 10 ** 9)
            self.assertEqual(rank(matrix), middle)
            self.assertEqual(rank(matrix.transpose), middle)

    def test_fractions_do_not_matter(self):
        self.assertEqual(slow_rank([[Fraction(1, 2), Fraction(1, 3)], [Fraction(3), Fraction(2)]]), 1)
        self.assertEqual(rank(Matrix([[3, 2], [18, 12]], 6)), 1)
