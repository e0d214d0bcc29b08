"""Points 24, 25 and 27: the reach of a matrix, its starts, and the check of its certificates."""

from lastrows.cyclic import as_polynomial
from lastrows.errors import NotCyclic
from lastrows.matrices import Matrix
from lastrows.polys import Poly
from lastrows.ratios import Ratio
from lastrows.reaches import Reach, reach
from lastrows.vectors import Vector
from tests.support import (Case, cycle, diagonal, is_full, lies_in_space, lower_shift, slow_degree, some_cyclic,
                           some_full, some_matrix, some_vector, source)


def corner(size):
    """Returns the matrix that has nothing but a one at the end of its first row."""
    return Matrix([[1 if (i, j) == (0, size - 1) else 0 for j in range(size)] for i in range(size)])


def cyclic_matrices():
    numbers = source(240)
    found = [lower_shift(size) for size in range(2, 6)] + [lower_shift(size).transpose for size in range(2, 6)]
    found += [diagonal(*range(size)) for size in range(2, 6)]
    found += [some_cyclic(numbers, size, most) for size in range(2, 6) for most in (1, 2, 9)]
    return found


class ReachCase(Case):
    def check(self, a, y):
        """Checks all that point 24 says of one reach, and returns it."""
        found = reach(a, y)
        size = a.height
        self.assertEqual(found.poly, as_polynomial(a, y))
        if found.poly is None:
            self.assertNotEqual(a * y, y * a)
            self.assertEqual(found.least, size - 1)
        else:
            self.assert_same(found.poly(a), y)
            self.assertEqual(found.least, max(found.poly.degree, 0))
        if found.least == 0:
            self.assertIsNone(found.start)
        else:
            self.assertTrue(is_full(a, found.start))
            self.assertFalse(lies_in_space(a, y * found.start, found.start, found.least))
        numbers = source(241)
        for _ in range(3):
            start = some_full(numbers, a)
            self.assertTrue(lies_in_space(a, y * start, start, found.least + 1))
        self.assertIs(found.holds(a, y), True)
        self.assertEqual(vars(reach(a, y)), vars(found))
        return found


class ReachTest(ReachCase):
    def test_polynomials_of_the_matrix(self):
        numbers = source(242)
        for a in cyclic_matrices():
            for degree in range(1, a.height):
                poly = Poly([numbers.randint(-9, 9) for _ in range(degree)] + [numbers.choice([-3, 1, 7])], 2)
                found = self.check(a, poly(a))
                self.assert_same(found.poly, poly)
                self.assertEqual(found.least, degree)

    def test_polynomials_of_a_high_degree(self):
        a = cycle(3)
        self.assertEqual(self.check(a, a ** 4).least, 1)
        self.assertEqual(self.check(a, a ** 20).least, 2)
        self.assertEqual(self.check(a, a ** 3).least, 0)

    def test_multiples_of_the_identity_and_zero(self):
        for a in cyclic_matrices():
            size = a.height
            for ratio in (Ratio(1), Ratio(-5, 3), Ratio(10 ** 20)):
                found = self.check(a, Matrix.identity(size) * ratio)
                self.assertEqual((found.least, found.start), (0, None))
                self.assert_same(found.poly, Poly.constant(ratio))
            found = self.check(a, Matrix.zero(size, size))
            self.assertEqual((found.least, found.start), (0, None))
            self.assert_same(found.poly, Poly([]))

    def test_matrices_that_do_not_commute(self):
        numbers = source(243)
        several = 0
        for a in cyclic_matrices():
            for y in (some_matrix(numbers, a.height, a.height, 1), a.transpose, corner(a.height),
                      some_matrix(numbers, a.height, a.height, 10 ** 20)):
                if a * y != y * a:
                    found = self.check(a, y)
                    self.assertEqual((found.least, found.poly), (a.height - 1, None))
                    several += 1
        self.assertGreater(several, 40)

    def test_starts_that_are_found_late(self):
        # The first starts that come to mind do not leave their spaces by this matrix.
        for size in range(2, 6):
            a, y = lower_shift(size), corner(size)
            if size > 2:
                self.assertTrue(lies_in_space(a, y * Vector.unit(size, 0), Vector.unit(size, 0), 1))
            self.assertEqual(self.check(a, y).least, size - 1)
            self.assertEqual(self.check(a * Ratio(3, 2) + Matrix.identity(size), y).least, size - 1)

    def test_large_numbers(self):
        numbers = source(244)
        for size in range(2, 6):
            a = some_cyclic(numbers, size, 10 ** 20)
            found = self.check(a, some_matrix(numbers, size, size, 10 ** 20))
            self.assert_made_anew(found.start)
            found = self.check(a, a ** (size - 1))
            self.assert_made_anew(found.poly)

    def test_not_cyclic(self):
        numbers = source(245)
        for a in (Matrix.identity(2), Matrix.zero(5, 5), diagonal(1, 2, 1),
                  Matrix([[1, 1, 0, 0], [0, 1, 0, 0], [0, 0, 1, 1], [0, 0, 0, 1]])):
            for y in (a, Matrix.identity(a.height), some_matrix(numbers, a.height, a.height)):
                self.assert_refused(NotCyclic, {"found": slow_degree(a)}, reach, a, y)


class HoldsTest(Case):
    def check_others(self, a, y, numbers):
        """Checks the certificate of y with each part replaced by another one."""
        found, size = reach(a, y), a.height
        poly, start = found.poly, found.start

        def held(least, poly, start):
            answer = Reach(least, poly, start).holds(a, y)
            self.assertIs(type(answer), bool)
            return answer

        self.assertTrue(held(found.least, poly, start))
        for least in (-10 ** 20, -2, -1, *range(size + 3), 10 ** 20):
            self.assertEqual(held(least, poly, start), least == found.least)
        for other in (Poly([]), Poly([1]), Poly.x(), Poly([1, 2, 3, 4, 5]), Poly([1] * 21)):
            if poly is None or other != poly:
                self.assertFalse(held(found.least, other, start))
        self.assertEqual(held(found.least, None, start), poly is None)
        self.assertEqual(held(found.least, poly, None), found.least == 0)
        self.assertFalse(held(found.least, poly, Vector.zero(size)))
        for _ in range(5):
            other = some_vector(numbers, size, 1)
            wanted = (found.least > 0 and is_full(a, other)
                      and not lies_in_space(a, y * other, other, found.least))
            self.assertEqual(held(found.least, poly, other), wanted)

    def test_each_part(self):
        numbers = source(246)
        for a in cyclic_matrices():
            size = a.height
            for y in (a, a * a + Matrix.identity(size), a ** (size - 1), Matrix.zero(size, size),
                      Matrix.identity(size) * Ratio(2, 3), a.transpose, corner(size)):
                self.check_others(a, y, numbers)

    def test_a_polynomial_that_gives_the_matrix_but_is_too_long(self):
        a = cycle(3)
        start = Vector([1, 0, 0])
        self.assertTrue(Reach(1, Poly([0, 1]), start).holds(a, a))
        self.assertFalse(Reach(1, Poly([0, 0, 0, 0, 1]), start).holds(a, a))
        self.assertFalse(Reach(4, Poly([0, 0, 0, 0, 1]), start).holds(a, a))
        self.assertFalse(Reach(0, Poly([0, 0, 0, 1]), None).holds(a, Matrix.identity(3)))
        self.assertFalse(Reach(3, Poly([0, 0, 0, 1]), start).holds(a, Matrix.identity(3)))
        self.assertFalse(Reach(3, Poly([0, 0, 0, 1]), None).holds(a, Matrix.identity(3)))

    def test_a_polynomial_that_agrees_on_the_start_alone(self):
        a, y = Matrix([[0, 0], [1, 0]]), Matrix([[1, 5], [1, 1]])
        self.assertFalse(Reach(1, Poly([1, 1]), Vector([1, 0])).holds(a, y))

    def test_no_polynomial_where_there_is_one(self):
        a = cycle(3)
        self.assertFalse(Reach(2, None, Vector([1, 0, 0])).holds(a, a * a))
        self.assertTrue(Reach(2, Poly([0, 0, 1]), Vector([1, 0, 0])).holds(a, a * a))

    def test_a_start_of_a_least_of_zero(self):
        a = Matrix([[1, 2], [3, 4]])
        self.assertTrue(Reach(0, Poly([2]), None).holds(a, Matrix.identity(2) * 2))
        self.assertFalse(Reach(0, Poly([2]), Vector([1, 0])).holds(a, Matrix.identity(2) * 2))
        self.assertTrue(Reach(0, Poly([]), None).holds(a, Matrix.zero(2, 2)))
        self.assertFalse(Reach(-1, Poly([]), None).holds(a, Matrix.zero(2, 2)))

    def test_the_attributes(self):
        poly, start = Poly.x(), Vector([1, 2])
        self.assertEqual(vars(Reach(3, poly, start)), {"least": 3, "poly": poly, "start": start})
        self.assertEqual(vars(Reach(-7, None, None)), {"least": -7, "poly": None, "start": None})
