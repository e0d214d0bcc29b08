"""Points 34 and 35: which matrices have the same spaces, and which measures the same walks, for all starts."""

from lastrows.errors import NotCyclic, SizeOutOfRange
from lastrows.factors import measure_times
from lastrows.matrices import Matrix
from lastrows.measures import Measure
from lastrows.polys import Poly
from lastrows.ratios import Ratio
from lastrows.sameness import OtherSpaces, SameSpaces, same_spaces, same_walks
from lastrows.vectors import Vector
from tests.support import (Case, cycle, diagonal, is_cyclic, is_full, lower_shift, slow_degree, slow_rank, slow_walk,
                           some_cyclic, some_full, some_matrix, some_measure, some_vector, source, space)


def equal_spaces(a, c, start, order):
    """Tells whether the spaces of an order of a start are the same for two matrices."""
    one, two = space(a, start, order), space(c, start, order)
    return slow_rank(one) == slow_rank(two) == slow_rank(one + two)


def corner(size):
    return Matrix([[1 if (i, j) == (0, size - 1) else 0 for j in range(size)] for i in range(size)])


class SameSpacesTest(Case):
    def check_same(self, a, c, factor, offset):
        for _ in range(2):
            found = same_spaces(a, c)
            self.assertIs(type(found), SameSpaces)
            self.assertEqual(vars(found), {"factor": factor, "offset": offset})
        numbers = source(340)
        for start in (some_vector(numbers, a.height), some_vector(numbers, a.height, 1), Vector.unit(a.height, 0)):
            for order in range(1, a.height + 1):
                self.assertTrue(equal_spaces(a, c, start, order))

    def check_other(self, a, c):
        found = same_spaces(a, c)
        self.assertIs(type(found), OtherSpaces)
        self.assertEqual(vars(found), {"start": found.start})
        self.assertTrue(is_full(a, found.start))
        self.assertFalse(equal_spaces(a, c, found.start, 2))
        self.assertEqual(vars(same_spaces(a, c)), vars(found))

    def test_the_same(self):
        numbers = source(341)
        for size in range(3, 6):
            for a in (some_cyclic(numbers, size), lower_shift(size), cycle(size), diagonal(*range(size))):
                for factor, offset in [(Ratio(1), Ratio(0)), (Ratio(-2, 3), Ratio(0)), (Ratio(5), Ratio(-7, 2)),
                                       (Ratio(10 ** 20, 3), Ratio(1, 10 ** 20))]:
                    self.check_same(a, a * factor + Matrix.identity(size) * offset, factor, offset)

    def test_multiples_of_the_identity(self):
        numbers = source(342)
        for size in range(3, 6):
            for a in (some_cyclic(numbers, size), lower_shift(size), diagonal(*range(size))):
                for ratio in (Ratio(0), Ratio(1), Ratio(-7, 2)):
                    self.check_other(a, Matrix.identity(size) * ratio)

    def test_polynomials_of_higher_degrees(self):
        numbers = source(343)
        for size in range(3, 6):
            for a in (some_cyclic(numbers, size), lower_shift(size), cycle(size)):
                for k in range(2, size):
                    self.check_other(a, a ** k)
                    self.check_other(a, a ** k + a + Matrix.identity(size))

    def test_matrices_that_do_not_commute(self):
        numbers = source(344)
        for size in range(3, 6):
            for a in (some_cyclic(numbers, size, 1), some_cyclic(numbers, size), lower_shift(size)):
                for c in (a.transpose, corner(size), some_matrix(numbers, size, size), a + corner(size),
                          some_matrix(numbers, size, size, 10 ** 20)):
                    if a * c != c * a:
                        self.check_other(a, c)

    def test_a_second_matrix_that_is_not_cyclic(self):
        self.check_other(diagonal(1, 2, 3), diagonal(1, 2, 1))
        self.check_other(diagonal(1, 2, 3), corner(3))

    def test_size_out_of_range(self):
        for size in (1, 2):
            for a in (Matrix.identity(size), lower_shift(size)):
                for c in (a, Matrix.identity(size)):
                    self.assert_refused(SizeOutOfRange, {"size": size}, same_spaces, a, c)

    def test_not_cyclic(self):
        for a in (Matrix.identity(3), diagonal(1, 2, 1), Matrix.zero(4, 4), diagonal(1, 1, 2, 2, 3)):
            for c in (a, cycle(a.height)):
                self.assert_refused(NotCyclic, {"found": slow_degree(a)}, same_spaces, a, c)

    def test_the_attributes(self):
        factor, offset, start = Ratio(1, 2), Ratio(3), Vector([1, 2, 3])
        self.assertEqual(vars(SameSpaces(factor, offset)), {"factor": factor, "offset": offset})
        self.assertEqual(vars(OtherSpaces(start)), {"start": start})


class SameWalksTest(Case):
    def check_other(self, a, first, second):
        found = same_walks(a, first, second)
        self.assertIs(type(found), Vector)
        self.assertTrue(is_full(a, found))
        self.assertNotEqual(slow_walk(a, first, found)[0], slow_walk(a, second, found)[0])
        self.assert_same(same_walks(a, first, second), found)

    def test_multiples(self):
        numbers = source(350)
        for size in range(2, 6):
            a, first = some_cyclic(numbers, size), some_measure(numbers, size)
            for ratio in (Ratio(1), Ratio(2), Ratio(3, 7), Ratio(10 ** 20, 10 ** 20 - 1)):
                second = first * ratio
                for _ in range(2):
                    found = same_walks(a, first, second)
                    self.assertIs(type(found), Ratio)
                    self.assert_same(found, ratio)
                start = some_full(numbers, a)
                self.assertEqual(slow_walk(a, first, start)[0], slow_walk(a, second, start)[0])
                self.assert_same(same_walks(a, second, first), Ratio(1).over(ratio))

    def test_other_measures(self):
        numbers = source(351)
        for size in range(2, 6):
            for a in (some_cyclic(numbers, size, 1), some_cyclic(numbers, size), lower_shift(size), cycle(size),
                      diagonal(*range(size))):
                first = some_measure(numbers, size)
                self.check_other(a, first, some_measure(numbers, size))
                self.check_other(a, first, Measure.plain(size))
                self.check_other(a, Measure.plain(size), Measure.weights(*[Ratio(1)] * (size - 1), Ratio(2)))
                self.check_other(a, Measure.plain(size), Measure.weights(Ratio(1), *[Ratio(2)] * (size - 1)))

    def test_measures_with_the_same_adjoint(self):
        numbers = source(352)
        for size in range(2, 6):
            first = some_measure(numbers, size)
            b = some_matrix(numbers, size, size, 3)
            a = b + first.adjoint(b)
            if is_cyclic(a):
                self.check_other(a, first, measure_times(a, first, Poly([1, 0, 1])))

    def test_starts_that_walk_alike_are_passed_over(self):
        # The walks of the first unit vector are the same in both measures, and it is a full start.
        a = lower_shift(3)
        first, second = Measure.plain(3), Measure.weights(Ratio(1), Ratio(2), Ratio(3))
        unit = Vector.unit(3, 0)
        self.assertTrue(is_full(a, unit))
        self.assertEqual(slow_walk(a, first, unit)[0], slow_walk(a, second, unit)[0])
        self.check_other(a, first, second)

    def test_large_numbers(self):
        numbers = source(353)
        a = some_cyclic(numbers, 5, 10 ** 20)
        self.check_other(a, some_measure(numbers, 5, 10 ** 49), some_measure(numbers, 5, 10 ** 49))

    def test_not_cyclic(self):
        numbers = source(354)
        for a in (Matrix.identity(2), diagonal(1, 2, 1), Matrix.zero(4, 4), diagonal(1, 1, 2, 2, 3)):
            first = some_measure(numbers, a.height)
            for second in (first, first * 2, some_measure(numbers, a.height)):
                self.assert_refused(NotCyclic, {"found": slow_degree(a)}, same_walks, a, first, second)
