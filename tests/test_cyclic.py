"""Points 17, 18 and 19: plain starts, minimal polynomials, and matrices as polynomials of a cyclic matrix."""

from lastrows.cyclic import as_polynomial, base_start, minimal_polynomial, plain_start
from lastrows.errors import NotCyclic
from lastrows.inverses import inverse
from lastrows.matrices import Matrix
from lastrows.polys import Poly
from lastrows.ratios import Ratio
from lastrows.spaces import annihilator, grade
from lastrows.vectors import Vector
from tests.support import Case, diagonal, slow_degree, some_base, some_matrix, source


def with_other_base(matrix, numbers):
    """Returns the matrix in another base, so that its minimal polynomial stays as it is."""
    base = some_base(numbers, matrix.height)
    return inverse(base) * matrix * base


def samples():
    """Returns square matrices of the sizes 1 to 5, many of them not cyclic."""
    numbers = source(170)
    found = [Matrix([[7]], 3), Matrix([[0]]), diagonal(2, 2), diagonal(1, 2, 1), diagonal(3, 3, 3, 4), diagonal(0, 0, 1),
             diagonal(1, 1, 2, 2, 3), diagonal(0, 1, 2, 3, 4), Matrix.zero(4, 4), Matrix([[0, 1], [0, 0]]),
             Matrix([[0, 0, 0], [1, 0, 0], [0, 0, 0]]), Matrix([[1, 1, 0, 0], [0, 1, 0, 0], [0, 0, 1, 1], [0, 0, 0, 1]])]
    found += [Matrix.identity(size) * Ratio(-5, 2) for size in range(1, 6)]
    found += [with_other_base(matrix, numbers) for matrix in found if matrix.height > 1]
    for size in range(1, 6):
        found += [some_matrix(numbers, size, size, most) for most in (1, 1, 2, 9, 10 ** 20)]
    return found


class PlainStartTest(Case):
    def test_entries(self):
        self.assertEqual(plain_start(4, 0).tops, (1, 0, 0, 0))
        self.assertEqual(plain_start(4, 1).tops, (1, 1, 1, 1))
        self.assertEqual(plain_start(4, 3).tops, (1, 3, 9, 27))
        self.assertEqual(plain_start(1, 5).tops, (1,))
        self.assertEqual(plain_start(4, 3).bottom, 1)

    def test_size_thirty(self):
        for t in (0, 1, 2, 870):
            self.assertEqual(plain_start(30, t).tops, tuple(t ** k for k in range(30)))


class MinimalPolynomialTest(Case):
    def check(self, a):
        pair = minimal_polynomial(a)
        self.assertIs(type(pair), tuple)
        found, t = pair
        self.assert_same(found[found.degree], Ratio(1))
        self.assertTrue(found(a).is_zero)
        self.assertEqual(found.degree, slow_degree(a))
        self.assertIn(t, range(a.height * (a.height - 1) + 1))
        self.assert_same(annihilator(a, plain_start(a.height, t)), found)
        for lower in range(t):
            self.assert_other(annihilator(a, plain_start(a.height, lower)), found)
        self.assertEqual(minimal_polynomial(a), pair)
        return str(found), t

    def test_many(self):
        for a in samples():
            self.check(a)

    def test_multiples_of_the_identity(self):
        for size in range(1, 6):
            self.assertEqual(self.check(Matrix.identity(size) * Ratio(2, 3)), ("-2/3 1", 0))
            self.assertEqual(self.check(Matrix.zero(size, size)), ("0 1", 0))

    def test_diagonals_with_equal_numbers(self):
        self.assertEqual(self.check(diagonal(1, 2, 1)), ("2 -3 1", 1))
        self.assertEqual(self.check(diagonal(1, 2)), ("2 -3 1", 1))
        self.assertEqual(self.check(diagonal(3, 3, 0, 3, 0)), ("0 -3 1", 1))

    def test_starts_that_are_eigenvectors(self):
        for size in range(2, 6):
            base = Matrix.columns([plain_start(size, t) for t in range(size)])
            a = base * diagonal(*range(1, size + 1)) * inverse(base)
            self.assertEqual(self.check(a)[1], size)

    def test_the_greatest_start(self):
        # Each row of the base sends `size - 1` plain starts of its own to zero: its entries are the coefficients of
        # the polynomial that is zero at their numbers.
        for size in range(2, 6):
            rows = []
            for k in range(size):
                row = Poly([1])
                for t in range(k * (size - 1), (k + 1) * (size - 1)):
                    row = row * Poly([-t, 1])
                rows.append(row.tops)
            a = inverse(Matrix(rows)) * diagonal(*range(1, size + 1)) * Matrix(rows)
            self.assertEqual(self.check(a)[1], size * (size - 1))

    def test_a_greater_start_without_cyclic(self):
        # The number 2 stands there twice. The plain starts 0 and 1 lack one of the two parts each.
        rows = Matrix([[0, 1, 1], [1, 0, -1], [0, 1, -1]])
        self.assertEqual(self.check(inverse(rows) * diagonal(1, 2, 2) * rows), ("2 -3 1", 2))


class BaseStartTest(Case):
    def test_cyclic_matrices(self):
        for a in samples():
            found, t = minimal_polynomial(a)
            if found.degree == a.height:
                self.assert_same(base_start(a), plain_start(a.height, t))
                self.assertEqual(grade(a, base_start(a)), a.height)

    def test_not_cyclic(self):
        refused = 0
        for a in samples():
            degree = slow_degree(a)
            if degree < a.height:
                self.assert_refused(NotCyclic, {"found": degree}, base_start, a)
                self.assert_refused(NotCyclic, {"found": degree}, as_polynomial, a, a)
                self.assert_refused(NotCyclic, {"found": degree}, as_polynomial, a, some_matrix(source(1), 5, 5))
                refused += 1
        self.assertGreater(refused, 10)


class AsPolynomialTest(Case):
    def test_powers_and_sums(self):
        a = Matrix([[0, 0, 1], [1, 0, 0], [0, 1, 0]])
        self.assertEqual(str(as_polynomial(a, a.transpose)), "0 0 1")
        self.assertEqual(str(as_polynomial(a, a)), "0 1")
        self.assertEqual(str(as_polynomial(a, Matrix.identity(3) * Ratio(5, 2))), "5/2")
        self.assert_same(as_polynomial(a, Matrix.zero(3, 3)), Poly([]))
        self.assertEqual(str(as_polynomial(Matrix([[3]]), Matrix([[7]], 2))), "7/2")

    def test_matrices_that_commute(self):
        numbers = source(171)
        for a in samples():
            if slow_degree(a) == a.height:
                for _ in range(3):
                    p = Poly([numbers.randint(-9, 9) for _ in range(a.height)], numbers.randint(1, 5))
                    self.assert_same(as_polynomial(a, p(a)), p)
                high = as_polynomial(a, a ** (a.height + 2))
                self.assertLess(high.degree, a.height)
                self.assert_same(high(a), a ** (a.height + 2))

    def test_matrices_that_do_not_commute(self):
        numbers = source(172)
        for a in samples():
            if slow_degree(a) == a.height:
                y = some_matrix(numbers, a.height, a.height)
                found = as_polynomial(a, y)
                self.assertEqual(found is not None, a * y == y * a)
                if found is not None:
                    self.assert_same(found(a), y)
        a = Matrix([[1, 2], [3, 4]])
        self.assertIsNone(as_polynomial(a, a.transpose))
        self.assertIsNone(as_polynomial(diagonal(1, 2, 3), Matrix([[1, 0, 0], [0, 1, 0], [1, 0, 1]])))

    def test_a_start_alone_does_not_decide(self):
        # This matrix agrees with the polynomial 1 + x on the first unit vector, but not as a whole.
        a = Matrix([[0, 0], [1, 0]])
        y = Matrix([[1, 5], [1, 1]])
        self.assert_same(base_start(a), Vector([1, 0]))
        self.assert_same(y * base_start(a), Poly([1, 1])(a) * base_start(a))
        self.assertIsNone(as_polynomial(a, y))
