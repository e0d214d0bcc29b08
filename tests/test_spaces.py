"""Point 16: powers, annihilators and grades."""

from lastrows.matrices import Matrix
from lastrows.polys import Poly
from lastrows.ratios import Ratio
from lastrows.spaces import annihilator, grade, powers
from lastrows.vectors import Vector
from tests.support import Case, entries, slow_rank, some_matrix, some_vector, source

SHIFT = Matrix([[0, 0, 0], [1, 0, 0], [0, 1, 0]])


class PowersTest(Case):
    def test_counts(self):
        a, v = Matrix([[1, 2], [3, 4]], 2), Vector([1, -1], 3)
        self.assertEqual(powers(a, v, 0), ())
        self.assertEqual(powers(a, v, 1), (v,))
        for count in (2, 5, 40):
            found = powers(a, v, count)
            self.assertIs(type(found), tuple)
            self.assertEqual(len(found), count)
            power = Matrix.identity(2)
            for step in found:
                self.assert_same(step, power * v)
                power = a * power

    def test_large_numbers(self):
        numbers = source(160)
        a, v = some_matrix(numbers, 5, 5, 10 ** 20), some_vector(numbers, 5, 10 ** 20)
        found = powers(a, v, 40)
        self.assert_same(found[39], a * found[38])
        self.assert_same(found[20], a ** 20 * v)
        self.assert_made_anew(found[39])
        self.assertEqual(found, powers(a, v, 40))


class AnnihilatorTest(Case):
    def check(self, a, v):
        """Checks all that point 16 says, and returns the degree."""
        found = annihilator(a, v)
        self.assertEqual(found.degree, grade(a, v))
        self.assert_same(found[found.degree], Ratio(1))
        self.assertTrue((found(a) * v).is_zero)
        steps = [entries(step) for step in powers(a, v, len(v) + 2)]
        for order in range(1, len(v) + 3):
            self.assertEqual(slow_rank(steps[:order]), min(order, found.degree))
        self.assert_same(annihilator(a, v), found)
        return found.degree

    def test_zero_vector(self):
        for size in range(1, 6):
            a = some_matrix(source(161), size, size)
            self.assert_same(annihilator(a, Vector.zero(size)), Poly([1]))
            self.assertEqual(grade(a, Vector.zero(size)), 0)

    def test_eigenvectors(self):
        a = Matrix([[2, 1], [0, 3]])
        self.assertEqual(str(annihilator(a, Vector([1, 0], 7))), "-2 1")
        self.assertEqual(str(annihilator(a, Vector([5, 5]))), "-3 1")
        self.assertEqual(str(annihilator(a, Vector([0, 1]))), "6 -5 1")
        self.assertEqual(str(annihilator(Matrix.identity(4) * Ratio(2, 3), Vector([1, 2, 3, 4]))), "-2/3 1")
        self.assertEqual(str(annihilator(Matrix.zero(3, 3), Vector([1, 2, 3]))), "0 1")
        self.assertEqual(str(annihilator(Matrix([[7]], 3), Vector([5]))), "-7/3 1")

    def test_shift(self):
        self.assertEqual([self.check(SHIFT, Vector.unit(3, k)) for k in range(3)], [3, 2, 1])
        self.assertEqual(str(annihilator(SHIFT, Vector([1, 2, 3]))), "0 0 0 1")

    def test_full_starts(self):
        companion = Matrix([[0, 0, 0, -4], [1, 0, 0, 3], [0, 1, 0, -2], [0, 0, 1, 1]])
        self.assertEqual(str(annihilator(companion, Vector.unit(4, 0))), "4 -3 2 -1 1")
        self.assertEqual(self.check(companion, Vector.unit(4, 0)), 4)

    def test_many(self):
        numbers = source(162)
        for size in range(1, 6):
            for most in (1, 2, 10 ** 20):
                for _ in range(8):
                    self.check(some_matrix(numbers, size, size, most), some_vector(numbers, size, most))

    def test_it_divides(self):
        numbers = source(163)
        for _ in range(30):
            size = numbers.randint(2, 5)
            a = Matrix.diagonal(*[Ratio(numbers.randint(-2, 2)) for _ in range(size)])
            v = some_vector(numbers, size, 1)
            found = annihilator(a, v)
            other = annihilator(a, Vector([1] * size))
            self.assertTrue((other(a) * v).is_zero)
            self.assertTrue(other.remainder(found).is_zero)
