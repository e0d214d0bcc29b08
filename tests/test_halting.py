"""Point 48: no partner serves all sides."""

from lastrows.errors import NotCyclic, ZeroPartner
from lastrows.halting import halting_side
from lastrows.inverses import inverse
from lastrows.matrices import Matrix
from lastrows.polys import Poly
from lastrows.twosided import TwoSided
from lastrows.vectors import Vector
from tests.support import (Case, companion, cycle, diagonal, entries, flipped, is_full, lower_shift, slow_degree,
                           slow_rank, slow_times, some_base, some_cyclic, some_full, some_vector, source, table)


class HaltingSideTest(Case):
    def check(self, a, partner):
        """Checks all that point 48 says of one partner, and returns the halt."""
        found = self.assert_told_twice(lambda: halting_side(a, partner))
        self.assertIs(type(found), tuple)
        side, halt = found
        self.assertTrue(is_full(a, side))
        self.assertEqual(TwoSided(a, side, partner).halt, halt)
        self.assertIn(halt, range(a.height))
        if is_only_multiplied(a, partner):
            self.assertEqual(halt, 1)
            for other in (some_full(source(480), a), some_full(source(481), a, 1)):
                self.assertEqual(TwoSided(a, other, partner).halt, 1)
        return halt

    def test_many(self):
        numbers = source(482)
        for size in range(2, 6):
            for a in (some_cyclic(numbers, size, 1), some_cyclic(numbers, size), some_cyclic(numbers, size, 10 ** 20),
                      cycle(size), lower_shift(size), diagonal(*range(size)), companion(Poly([-2, 1]) ** size)):
                for partner in (some_vector(numbers, size), some_vector(numbers, size, 1) + Vector.unit(size, 0) * 5,
                                some_vector(numbers, size, 10 ** 20),
                                *[Vector.unit(size, place) for place in range(size)]):
                    self.check(a, partner)

    def test_partners_that_are_only_multiplied(self):
        numbers = source(483)
        for size in range(2, 6):
            base = some_base(numbers, size)
            for inner, partners in [(diagonal(*range(size)), [Vector.unit(size, k) for k in range(size)]),
                                    (lower_shift(size), [Vector.unit(size, 0)]),
                                    (cycle(size), [Vector([1] * size)])]:
                for partner in partners:
                    self.assertTrue(is_only_multiplied(inner, partner))
                    self.assertEqual(self.check(inner, partner), 1)
                    turned = inverse(base) * inner * base
                    self.assertEqual(self.check(turned, base.transpose * partner * 3), 1)

    def test_others_halt_at_0_or_below_the_size(self):
        self.assertLess(self.check(diagonal(1, 2), Vector([1, 1])), 2)
        self.assertLess(self.check(Matrix([[2, 1, 0], [1, 3, 1], [0, 1, 4]]), Vector([1, 0, 0])), 3)
        # Only a few starts are full, and only a few of these halt early.
        self.check(diagonal(0, 1, 2, 3, 4), Vector([1, 1, 1, 1, -1]))
        self.check(diagonal(0, 1, 2, 3, 4), Vector([0, 0, 0, 1, 1]))

    def test_not_cyclic_comes_first(self):
        for a in (Matrix.identity(2), Matrix.zero(5, 5), diagonal(1, 2, 1), diagonal(3, 3, 1, 1)):
            for partner in (Vector.zero(a.height), Vector.unit(a.height, 0)):
                self.assert_refused(NotCyclic, {"found": slow_degree(a)}, halting_side, a, partner)

    def test_zero_partner(self):
        numbers = source(484)
        for size in range(2, 6):
            for a in (some_cyclic(numbers, size), lower_shift(size)):
                self.assert_refused(ZeroPartner, {}, halting_side, a, Vector.zero(size))


def is_only_multiplied(a, partner):
    """Tells whether the transposed matrix only multiplies the partner by a number."""
    image = slow_times(flipped(table(a)), entries(partner))
    return slow_rank([entries(partner), image]) == 1
