"""Points 26 and 27: the memory of a matrix in a measure, and the check of its certificates."""

from lastrows.cyclic import as_polynomial
from lastrows.errors import NotCyclic
from lastrows.inverses import inverse
from lastrows.matrices import Matrix
from lastrows.measures import Measure
from lastrows.memories import Memory, memory
from lastrows.polys import Poly
from lastrows.ratios import Ratio
from lastrows.vectors import Vector
from tests.support import (Case, cycle, diagonal, is_cyclic, is_full, slow_band, slow_degree, slow_walk, some_base,
                           some_cyclic, some_full, some_matrix, some_measure, some_vector, source)

# In the plain measure its adjoint is its square.
SQUARE = Matrix([[0, 0, 0, 0], [0, 0, 0, 1], [0, 1, 0, 0], [0, 0, 1, 0]])


def turned(a, measure, numbers):
    """Returns the matrix in another base with the measure that belongs to it."""
    base = some_base(numbers, a.height)
    return inverse(base) * a * base, Measure(base.transpose * measure.matrix * base)


def samples():
    """Returns triples: a matrix, a measure, and the degree of the adjoint as a polynomial, None if it is none."""
    numbers = source(260)
    found = [(cycle(size), Measure.plain(size), size - 1) for size in range(2, 6)]
    found += [(SQUARE, Measure.plain(4), 2)]
    found += [(diagonal(*range(size)), Measure.plain(size), 1) for size in range(2, 6)]
    # The polynomial t - x.
    found += [(Matrix([[0, 0, 0], [0, 0, -1], [0, 1, 0]]) + Matrix.identity(3), Measure.plain(3), 1)]
    for size in range(2, 6):
        a = some_matrix(numbers, size, size, 3)
        found += [(a + a.transpose, Measure.plain(size), 1)]
    found = [triple for triple in found if is_cyclic(triple[0])]
    found += [(*turned(a, measure, numbers), degree) for a, measure, degree in found]
    for size in range(3, 6):
        found += [(some_cyclic(numbers, size, most), Measure.plain(size), None) for most in (1, 2, 9)]
        found += [(some_cyclic(numbers, size, most), some_measure(numbers, size), None) for most in (1, 2, 9)]
    return found


class MemoryTest(Case):
    def check(self, a, measure):
        """Checks all that point 26 says of one memory, and returns it."""
        found = memory(a, measure)
        size = a.height
        self.assertIn(found.least, range(1, size))
        self.assertEqual(found.poly, as_polynomial(a, measure.adjoint(a)))
        if found.poly is None:
            self.assertNotEqual(a * measure.adjoint(a), measure.adjoint(a) * a)
            self.assertEqual(found.least, size - 1)
        else:
            self.assertEqual(found.least, found.poly.degree)
            self.assert_same(found.poly(a), measure.adjoint(a))
        self.assertTrue(is_full(a, found.start))
        _, shares = slow_walk(a, measure, found.start)
        self.assertNotEqual(shares[found.least][0], 0)
        self.assertEqual(slow_band(shares), found.least)
        numbers = source(261)
        for start in (some_full(numbers, a), some_vector(numbers, size), some_vector(numbers, size, 1),
                      Vector.unit(size, 0), Vector.unit(size, size - 1)):
            self.assertLessEqual(slow_band(slow_walk(a, measure, start)[1]), found.least)
        self.assertIs(found.holds(a, measure), True)
        self.assertEqual(vars(memory(a, measure)), vars(found))
        return found

    def test_many(self):
        degrees = set()
        for a, measure, degree in samples():
            found = self.check(a, measure)
            if degree is None:
                self.assertIsNone(found.poly)
            else:
                self.assertEqual(found.poly.degree, degree)
            degrees.add(degree)
        self.assertEqual(degrees, {1, 2, 3, 4, None})

    def test_the_example_of_the_document(self):
        found = self.check(cycle(3), Measure.plain(3))
        self.assertEqual([found.least, str(found.poly)], [2, "0 0 1"])

    def test_size_two(self):
        numbers = source(262)
        for _ in range(20):
            found = self.check(some_cyclic(numbers, 2, 2), some_measure(numbers, 2))
            self.assertEqual(found.least, 1)

    def test_the_measure_decides(self):
        a = Matrix([[1, 1, 0], [0, 2, 1], [0, 0, 3]])
        self.assertIsNone(self.check(a, Measure.plain(3)).poly)
        base = Matrix([[1, 1, 1], [0, 1, 2], [0, 0, 2]])
        self.assert_same(a * base, base * diagonal(1, 2, 3))
        own = inverse(base).transpose * inverse(base)
        self.assertEqual(self.check(a, Measure(own)).least, 1)

    def test_large_numbers(self):
        numbers = source(263)
        for size in range(2, 6):
            found = self.check(some_cyclic(numbers, size, 10 ** 20), some_measure(numbers, size, 10 ** 49))
            self.assert_made_anew(found.start)

    def test_not_cyclic(self):
        numbers = source(264)
        for a in (Matrix.identity(2), Matrix.zero(5, 5), diagonal(1, 2, 1),
                  Matrix([[1, 1, 0, 0], [0, 1, 0, 0], [0, 0, 1, 1], [0, 0, 0, 1]])):
            for measure in (Measure.plain(a.height), some_measure(numbers, a.height)):
                self.assert_refused(NotCyclic, {"found": slow_degree(a)}, memory, a, measure)


class HoldsTest(Case):
    def check_others(self, a, measure, numbers):
        """Checks the certificate with each part replaced by another one."""
        found, size = memory(a, measure), a.height
        poly, start = found.poly, found.start

        def held(least, poly, start):
            answer = Memory(least, poly, start).holds(a, measure)
            self.assertIs(type(answer), bool)
            return answer

        for least in (-10 ** 20, -2, -1, *range(size + 3), 10 ** 20):
            self.assertEqual(held(least, poly, start), least == found.least)
        for other in (Poly([]), Poly([1]), Poly.x(), Poly([3, 1]), Poly([1, 2, 3, 4, 5]), Poly([1] * 21)):
            if poly is None or other != poly:
                self.assertFalse(held(found.least, other, start))
        self.assertEqual(held(found.least, None, start), poly is None)
        self.assertFalse(held(found.least, poly, None))
        self.assertFalse(held(found.least, poly, Vector.zero(size)))
        for _ in range(5):
            other = some_vector(numbers, size, 1)
            wanted = is_full(a, other) and slow_walk(a, measure, other)[1][found.least][0] != 0
            self.assertEqual(held(found.least, poly, other), wanted)

    def test_each_part(self):
        numbers = source(265)
        for a, measure, _ in samples():
            self.check_others(a, measure, numbers)

    def test_a_polynomial_that_gives_the_adjoint_but_is_too_long(self):
        a, start = cycle(3), Vector([1, 0, 0])
        self.assertTrue(Memory(2, Poly([0, 0, 1]), start).holds(a, Measure.plain(3)))
        self.assertFalse(Memory(2, Poly([0, 0, 0, 0, 0, 1]), start).holds(a, Measure.plain(3)))
        self.assertFalse(Memory(5, Poly([0, 0, 0, 0, 0, 1]), start).holds(a, Measure.plain(3)))
        for size in range(2, 6):
            a, start = cycle(size), Vector.unit(size, 0)
            long = Poly([-1] + [0] * (size - 2) + [1, 1])
            self.assert_same(long(a), Measure.plain(size).adjoint(a))
            self.assertFalse(Memory(size, long, start).holds(a, Measure.plain(size)))
            self.assertFalse(Memory(size - 1, long, start).holds(a, Measure.plain(size)))

    def test_no_polynomial_where_there_is_one(self):
        self.assertFalse(Memory(2, None, Vector([1, 0, 0])).holds(cycle(3), Measure.plain(3)))

    def test_another_measure(self):
        a, start = cycle(3), Vector([1, 0, 0])
        other = Measure.weights(Ratio(1), Ratio(2), Ratio(5))
        self.assertFalse(Memory(2, Poly([0, 0, 1]), start).holds(a, other))
        self.assertTrue(Memory(2, None, start).holds(a, other))

    def test_a_start_whose_share_is_zero(self):
        # The share of row 2 in row 0 is zero for this start, though it is full and the memory is 2.
        a = Matrix([[1, 0, 0], [1, 2, 0], [0, 1, 3]])
        found = memory(a, Measure.plain(3))
        self.assertEqual((found.least, found.poly), (2, None))
        self.assertEqual(slow_walk(a, Measure.plain(3), Vector([1, 0, 0]))[1][2][0], 0)
        self.assertTrue(is_full(a, Vector([1, 0, 0])))
        self.assertFalse(Memory(2, None, Vector([1, 0, 0])).holds(a, Measure.plain(3)))

    def test_the_attributes(self):
        poly, start = Poly.x(), Vector([1, 2])
        self.assertEqual(vars(Memory(3, poly, start)), {"least": 3, "poly": poly, "start": start})
        self.assertEqual(vars(Memory(-7, None, None)), {"least": -7, "poly": None, "start": None})
