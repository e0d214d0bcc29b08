"""Points 7 and 8: matrices and their written form."""

from math import gcd

from lastrows.errors import BadNumber, Empty, NotSquare, RaggedRows, SizeMismatch, ZeroBottom
from lastrows.matrices import Matrix
from lastrows.ratios import Ratio
from lastrows.vectors import Vector
from tests.support import Case, entries, fraction, some_matrix, some_vector, source, table


def product(left, right):
    return [[sum(one * two for one, two in zip(row, column)) for column in zip(*right)] for row in left]


class MatrixTest(Case):
    def assert_parts(self, matrix, tops, bottom):
        self.assertEqual((matrix.tops, matrix.bottom), (tops, bottom))
        self.assertEqual((matrix.height, matrix.width), (len(tops), len(tops[0])))

    def test_lowest_terms(self):
        self.assert_parts(Matrix([[2, 4], [6, 8]], 4), ((1, 2), (3, 4)), 2)
        self.assert_parts(Matrix([[2, 4], [6, 8]], -4), ((-1, -2), (-3, -4)), 2)
        self.assert_parts(Matrix([[2, 4, 6]]), ((2, 4, 6),), 1)
        self.assert_parts(Matrix(((2,), (3,)), 4), ((2,), (3,)), 4)
        self.assert_parts(Matrix([[0, 0], [0, 0]], -6), ((0, 0), (0, 0)), 1)

    def test_lists_are_copied(self):
        rows = [[1, 2], [3, 4]]
        matrix = Matrix(rows)
        rows[0][0] = 9
        rows[1] = [8, 8]
        rows.append([5, 6])
        self.assert_parts(matrix, ((1, 2), (3, 4)), 1)
        self.assertEqual([type(row) for row in matrix.tops], [tuple, tuple])
        vectors = [Vector([1, 2]), Vector([3, 4])]
        matrix = Matrix.columns(vectors)
        vectors.pop()
        self.assert_parts(matrix, ((1, 3), (2, 4)), 1)

    def test_checks_in_their_order(self):
        self.assert_refused(Empty, {}, Matrix, [])
        self.assert_refused(Empty, {}, Matrix, [[]])
        self.assert_refused(Empty, {}, Matrix, (), 0)
        self.assert_refused(Empty, {}, Matrix, [[], [1]], 0)
        self.assert_refused(RaggedRows, {"index": 1}, Matrix, [[1], []], 0)
        self.assert_refused(RaggedRows, {"index": 2}, Matrix, [[1, 2], [3, 4], [5], [6, 7, 8]])
        self.assert_refused(RaggedRows, {"index": 1}, Matrix, ((1, 2), (3, 4, 5)))
        self.assert_refused(ZeroBottom, {}, Matrix, [[1]], 0)

    def test_entries_rows_and_columns(self):
        matrix = Matrix([[1, 2, 3], [4, 5, 6]], 6)
        self.assertEqual([[str(matrix[i, j]) for j in range(3)] for i in range(2)],
                         [["1/6", "1/3", "1/2"], ["2/3", "5/6", "1"]])
        self.assertIs(type(matrix[0, 0]), Ratio)
        self.assert_same(matrix.row(0), Vector([1, 2, 3], 6))
        self.assert_same(matrix.row(1), Vector([4, 5, 6], 6))
        self.assert_same(matrix.column(0), Vector([1, 4], 6))
        self.assert_same(matrix.column(2), Vector([1, 2], 2))

    def test_transpose_and_symmetry(self):
        self.assert_parts(Matrix([[1, 2, 3], [4, 5, 6]], 5).transpose, ((1, 4), (2, 5), (3, 6)), 5)
        self.assertIs(Matrix([[1, 2], [2, 3]], 4).is_symmetric, True)
        self.assertIs(Matrix([[1, 2], [3, 1]]).is_symmetric, False)
        self.assertIs(Matrix([[7]]).is_symmetric, True)
        self.assertIs(Matrix([[1, 1]]).is_symmetric, False)
        self.assertIs(Matrix.zero(2, 3).is_symmetric, False)
        self.assertIs(Matrix([[0, 1, 2], [1, 0, 3], [2, 4, 0]]).is_symmetric, False)

    def test_is_zero(self):
        self.assertIs(Matrix.zero(2, 3).is_zero, True)
        self.assertIs(Matrix([[0, 0], [0, -1]]).is_zero, False)

    def test_trace(self):
        self.assertEqual(str(Matrix([[1, 9], [9, 2]], 6).trace()), "1/2")
        self.assertEqual(str(Matrix([[1, 9], [9, -1]]).trace()), "0")
        self.assert_refused(NotSquare, {"height": 1, "width": 2}, Matrix([[1, 2]]).trace)
        self.assert_refused(NotSquare, {"height": 3, "width": 1}, Matrix.zero(3, 1).trace)

    def test_arithmetic_against_fractions(self):
        numbers = source(7)
        for _ in range(120):
            height, width, other = [numbers.randint(1, 5) for _ in range(3)]
            most = numbers.choice([3, 10 ** 20])
            m, n = some_matrix(numbers, height, width, most), some_matrix(numbers, height, width, most)
            q, v = some_matrix(numbers, width, other, most), some_vector(numbers, width, most)
            r, k = Ratio(numbers.randint(-9, 9), numbers.randint(1, 9)), numbers.randint(-9, 9)
            x, y = table(m), table(n)
            self.assertEqual(table(m + n), [[a + b for a, b in zip(s, t)] for s, t in zip(x, y)])
            self.assertEqual(table(m - n), [[a - b for a, b in zip(s, t)] for s, t in zip(x, y)])
            self.assertEqual(table(-m), [[-a for a in row] for row in x])
            self.assertEqual(table(m * q), product(x, table(q)))
            self.assertEqual(entries(m * v), [row[0] for row in product(x, [[a] for a in entries(v)])])
            for found, factor in [(m * r, fraction(r)), (r * m, fraction(r)), (m * k, k), (k * m, k)]:
                self.assertEqual(table(found), [[a * factor for a in row] for row in x])
            self.assertEqual(table(m.transpose), [list(column) for column in zip(*x)])
            for found in (m + n, m - n, -m, m * q, m * r, k * m, m.transpose):
                self.assertEqual(gcd(found.bottom, *[top for row in found.tops for top in row]), 1)
                self.assertGreater(found.bottom, 0)
                self.assert_made_anew(found)
            self.assertEqual((table(m), table(n)), (x, y))
            self.assertIs(type(m * v), Vector)

    def test_size_mismatch(self):
        m = Matrix.zero(2, 3)
        for n, left, right in [(Matrix.zero(4, 5), 2, 4), (Matrix.zero(2, 5), 3, 5), (Matrix.zero(3, 3), 2, 3)]:
            self.assert_refused(SizeMismatch, {"left": left, "right": right}, lambda: m + n)
            self.assert_refused(SizeMismatch, {"left": left, "right": right}, lambda: m - n)
        for other, right in [(m, 2), (Matrix.identity(4), 4), (Vector([1, 2]), 2), (Vector.zero(4), 4)]:
            self.assert_refused(SizeMismatch, {"left": 3, "right": right}, lambda: m * other)

    def test_powers(self):
        matrix = Matrix([[1, 2], [-1, 3]], 3)
        power = Matrix.identity(2)
        for k in range(21):
            self.assert_same(matrix ** k, power)
            power = power * matrix
        self.assert_same(Matrix.zero(3, 3) ** 0, Matrix.identity(3))
        self.assert_same(Matrix.zero(3, 3) ** 1, Matrix.zero(3, 3))
        for k in (0, 1, 2):
            self.assert_refused(NotSquare, {"height": 2, "width": 3}, lambda: Matrix.zero(2, 3) ** k)

    def test_large_power(self):
        numbers = source(70)
        matrix = some_matrix(numbers, 30, 30, 10 ** 20)
        power = matrix ** 20
        self.assert_same(power, (matrix ** 5) ** 4)
        self.assert_made_anew(power)

    def test_equality(self):
        self.assert_same(Matrix([[1, 2]], 2), Matrix([[2, 4]], 4))
        self.assert_other(Matrix([[1, 2]]), Matrix([[1, 2]], 3))
        self.assert_other(Matrix([[1, 2]]), Matrix([[1], [2]]))
        self.assert_other(Matrix.zero(2, 3), Matrix.zero(3, 2))
        for other in (1, "1", None, [[1]], ((1,),), Ratio(1), Vector([1])):
            self.assert_other(Matrix([[1]]), other)

    def test_a_vector_on_the_left_is_no_product(self):
        with self.assertRaises(TypeError):
            Vector([1, 2]) * Matrix.identity(2)

    def test_identity_and_zero(self):
        self.assert_parts(Matrix.identity(3), ((1, 0, 0), (0, 1, 0), (0, 0, 1)), 1)
        self.assert_parts(Matrix.zero(2, 3), ((0, 0, 0), (0, 0, 0)), 1)
        self.assert_parts(Matrix.zero(3, 1), ((0,), (0,), (0,)), 1)

    def test_diagonal(self):
        self.assert_parts(Matrix.diagonal(Ratio(1, 2), Ratio(-1, 3), Ratio(0)), ((3, 0, 0), (0, -2, 0), (0, 0, 0)), 6)
        self.assert_parts(Matrix.diagonal(Ratio(5)), ((5,),), 1)
        self.assert_refused(Empty, {}, Matrix.diagonal)
        ratios = [Ratio(k, 7) for k in range(30)]
        self.assert_same(Matrix.diagonal(*ratios)[29, 29], Ratio(29, 7))

    def test_columns(self):
        self.assert_parts(Matrix.columns([Vector([1, 2], 3), Vector([1, 1], 2), Vector([0, 0])]),
                          ((2, 3, 0), (4, 3, 0)), 6)
        self.assert_parts(Matrix.columns((Vector([1, 2]),)), ((1,), (2,)), 1)
        self.assert_refused(Empty, {}, Matrix.columns, [])
        vectors = [Vector([1, 2]), Vector([1, 2]), Vector([1, 2, 3]), Vector([1])]
        self.assert_refused(SizeMismatch, {"left": 2, "right": 3}, Matrix.columns, vectors)
        self.assert_refused(SizeMismatch, {"left": 2, "right": 1}, Matrix.columns, vectors[:2] + vectors[3:])


class WrittenMatrixTest(Case):
    def test_there_and_back(self):
        self.assert_form(Matrix([[1, 2], [3, 4]], 2) ** 2, "7/4 5/2; 15/4 11/2")
        self.assert_form(Matrix([[0]]), "0")
        self.assert_form(Matrix([[1], [-2]], 3), "1/3; -2/3")
        self.assert_form(Matrix.zero(2, 3), "0 0 0; 0 0 0")
        numbers = source(80)
        for _ in range(30):
            matrix = some_matrix(numbers, numbers.randint(1, 6), numbers.randint(1, 6), 10 ** 20)
            text = "; ".join([" ".join([str(number) for number in row]) for row in table(matrix)])
            self.assert_form(matrix, text)

    def test_thirty_rows_and_columns(self):
        matrix = some_matrix(source(81), 30, 30, 10 ** 6)
        self.assert_form(matrix, "; ".join([str(matrix.row(i)) for i in range(30)]))

    def test_empty_words(self):
        for text in ("", " ", "; ", "1; ", "1 2;  3 4", "1 2 ; 3 4", " 1; 2", "1; 2 ", "1; ; 2", ";  "):
            self.assert_refused(BadNumber, {"text": ""}, Matrix.read, text)

    def test_the_leftmost_bad_word(self):
        for text, word in [("1 2;3 4", "2;3"), ("1;", "1;"), ("1 2; 3 x; y", "x"), ("a b; c", "a"), (";1", ";1"),
                           ("1 2;; 3 4", "2;"), ("1 2; 3;", "3;"), ("plain", "plain"), ("long", "long")]:
            self.assert_refused(BadNumber, {"text": word}, Matrix.read, text)

    def test_bad_words_come_before_ragged_rows(self):
        self.assert_refused(BadNumber, {"text": "x"}, Matrix.read, "1 2; 3; 4 x")
        self.assert_refused(BadNumber, {"text": ""}, Matrix.read, "1 2; 3 4 5; ")
        self.assert_refused(RaggedRows, {"index": 1}, Matrix.read, "1 2; 3; 4 5 6")
        self.assert_refused(RaggedRows, {"index": 2}, Matrix.read, "1 2; 3 4; 5")

    def test_long_entries(self):
        over = 10 ** 400
        self.assertEqual(str(Matrix([[over, 1], [0, over - 1]])), f"long 1; 0 {over - 1}")
        self.assertEqual(str(Matrix([[1, over]], -over)), "long -1")
        self.assertEqual(str(Matrix([[3 ** 20000], [6]], 2)), "long; 3")
