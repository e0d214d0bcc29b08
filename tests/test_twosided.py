"""Points 46 and 47: the two-sided walk and its moments."""

from fractions import Fraction

from lastrows.inverses import inverse
from lastrows.matrices import Matrix
from lastrows.measures import Measure
from lastrows.ratios import Ratio
from lastrows.spaces import grade
from lastrows.tasks import Task
from lastrows.twosided import TwoSided, moments
from lastrows.vectors import Vector
from lastrows.walks import Walk
from tests.support import (Case, cycle, diagonal, entries, flipped, fraction, lies_in_space, lower_shift, minus, plus,
                           slow_determinant, slow_solve, slow_times, some_base, some_matrix, some_singular,
                           some_vector, source, space, table)


def samples(seed):
    """Yields triples of the sizes 2 to 5, with halts at all places and all endings."""
    numbers = source(seed)
    for size in range(2, 6):
        for most in (1, 1, 1, 2, 9):
            a = some_matrix(numbers, size, size, most)
            yield a, some_vector(numbers, size, most), some_vector(numbers, size, most)
            yield a, Vector.unit(size, 0), Vector.unit(size, 0)
            yield a, Vector.unit(size, 0), Vector.unit(size, 1)
            low = Matrix([[top if j <= i + 1 else 0 for j, top in enumerate(row)] for i, row in enumerate(a.tops)])
            yield low, Vector.unit(size, 0), Vector.unit(size, 0)
        for many in range(size + 1):
            # The halt is the number of the places that the side and the partner share.
            shared = Vector([1] * many + [0] * (size - many))
            yield diagonal(*range(1, size + 1)), shared, some_positive(numbers, size)
            yield diagonal(*range(1, size + 1)), some_positive(numbers, size), shared
        yield some_singular(numbers, size), some_vector(numbers, size), some_vector(numbers, size)
        yield Matrix.zero(size, size), some_vector(numbers, size), some_vector(numbers, size)
        yield diagonal(*[k // 2 for k in range(size)]), some_vector(numbers, size), some_vector(numbers, size)
        yield some_base(numbers, size, 10 ** 20), some_vector(numbers, size, 10 ** 20), some_vector(numbers, size, 10 ** 20)


def some_positive(numbers, size):
    return Vector([numbers.randint(1, 9) for _ in range(size)])


def dot(u, v):
    return sum((one * two for one, two in zip(u, v)), Fraction(0))


def slow_two_sided(a, side, partner):
    """Returns rows, partners, pairings, middles and links as fractions, by the sums of point 46."""
    rows, partners = [entries(side)], [entries(partner)]
    pairings, middles, links = [], [], []
    while dot(rows[-1], partners[-1]) != 0:
        m = len(pairings)
        pairings.append(dot(rows[m], partners[m]))
        image, other = slow_times(table(a), rows[m]), slow_times(flipped(table(a)), partners[m])
        middles.append(dot(image, partners[m]) / pairings[m])
        row, following = plus(image, rows[m], -middles[m]), plus(other, partners[m], -middles[m])
        if m > 0:
            links.append(pairings[m] / pairings[m - 1])
            row, following = plus(row, rows[m - 1], -links[-1]), plus(following, partners[m - 1], -links[-1])
        rows.append(row)
        partners.append(following)
    return rows, partners, pairings, middles, links


class TwoSidedCase(Case):
    def check(self, a, side, partner):
        """Checks all that point 46 says of one two-sided walk, and returns it."""
        walk = self.assert_told_twice(lambda: TwoSided(a, side, partner))
        rows, partners, pairings, middles, links = slow_two_sided(a, side, partner)
        self.assertEqual([entries(row) for row in walk.rows], rows)
        self.assertEqual([entries(row) for row in walk.partners], partners)
        self.assertEqual([fraction(part) for part in walk.pairings], pairings)
        self.assertEqual([fraction(part) for part in walk.middles], middles)
        self.assertEqual([fraction(part) for part in walk.links], links)
        self.assertEqual(walk.halt, len(pairings))
        self.assertEqual([len(part) for part in (walk.rows, walk.partners, walk.pairings, walk.middles, walk.links)],
                         [walk.halt + 1, walk.halt + 1, walk.halt, walk.halt, max(walk.halt - 1, 0)])
        for part in (walk.rows, walk.partners, walk.pairings, walk.middles, walk.links):
            self.assertIs(type(part), tuple)
        ending = "row" if not any(rows[-1]) else "partner" if not any(partners[-1]) else "pairing"
        self.assertEqual(walk.ending, ending)
        self.check_halt(a, side, partner, walk)
        for k in range(1, walk.halt + 1):
            self.check_slants(walk, k)
        for k in range(walk.halt + 1):
            self.check_answer(a, side, walk, k)
        return walk

    def check_halt(self, a, side, partner, walk):
        order, other = grade(a, side), grade(a.transpose, partner)
        self.assertLessEqual(walk.halt, order)
        self.assertEqual(walk.rows[-1].is_zero, walk.halt == order)
        self.assertEqual(walk.partners[-1].is_zero, walk.halt == other)

    def check_slants(self, walk, k):
        found = walk.slants(k)
        wanted = [[Ratio(0)] * k for _ in range(k)]
        for m in range(k):
            wanted[m][m] = walk.middles[m]
            if m > 0:
                wanted[m][m - 1] = Ratio(1)
                wanted[m - 1][m] = walk.links[m - 1]
        self.assertEqual(table(found), [[fraction(part) for part in row] for row in wanted])
        self.assert_same(walk.slants(k), found)

    def check_answer(self, a, side, walk, k):
        found = walk.answer_at(k)
        self.assertEqual(found, walk.answer_at(k))
        slanted = slow_determinant(table(walk.slants(k))) if k > 0 else 1
        self.assertEqual(found is None, slanted == 0)
        # The answer by its shares of the powers of the side, which are found from the conditions alone.
        vectors, partners = space(a, side, k) if k > 0 else [], [entries(part) for part in walk.partners[:k]]
        conditions = [[dot(slow_times(table(a), vector), part) for vector in vectors] for part in partners]
        shares = slow_solve(conditions, [dot(entries(side), part) for part in partners])
        self.assertEqual(found is None, shares is None)
        if found is not None:
            wanted = [Fraction(0)] * a.height
            for share, vector in zip(shares, vectors):
                wanted = plus(wanted, vector, share)
            self.assertEqual(entries(found), wanted)
            self.assertTrue(lies_in_space(a, found, side, k))
            residual = minus(entries(side), slow_times(table(a), entries(found)))
            self.assertEqual([dot(residual, part) for part in partners], [0] * k)


class TwoSidedTest(TwoSidedCase):
    def test_many(self):
        seen, missing = set(), 0
        for a, side, partner in samples(460):
            walk = self.check(a, side, partner)
            seen |= {(walk.ending, a.height), (walk.halt, a.height)}
            missing += any(walk.answer_at(k) is None for k in range(walk.halt))
        self.assertGreaterEqual(seen, {(ending, size) for ending in ("row", "partner", "pairing") for size in (3, 4, 5)})
        self.assertGreaterEqual(seen, {(halt, size) for size in range(2, 6) for halt in range(size + 1)})
        self.assertGreater(missing, 3)

    def test_a_halt_at_0(self):
        a = Matrix([[1, 2], [3, 4]])
        for side, partner, ending in [("1 0", "0 1", "pairing"), ("0 0", "0 1", "row"), ("1 0", "0 0", "partner"),
                                      ("0 0", "0 0", "row")]:
            walk = self.check(a, Vector.read(side), Vector.read(partner))
            self.assertEqual((walk.halt, walk.ending), (0, ending))
            self.assertEqual((walk.rows, walk.partners), ((Vector.read(side),), (Vector.read(partner),)))
            self.assertEqual((walk.pairings, walk.middles, walk.links), ((), (), ()))
            self.assertEqual(str(walk.answer_at(0)), "0 0")

    def test_a_halt_in_the_middle(self):
        # Neither the row nor the partner is zero.
        walk = self.check(cycle(4), Vector.unit(4, 0), Vector.unit(4, 0))
        self.assertEqual((walk.halt, walk.ending), (1, "pairing"))
        self.assertEqual([str(row) for row in walk.rows], ["1 0 0 0", "0 1 0 0"])
        self.assertEqual([str(row) for row in walk.partners], ["1 0 0 0", "0 0 0 1"])

    def test_a_halt_at_the_grade(self):
        a = Matrix([[2, 1, 0], [1, 3, 1], [0, 1, 4]])
        walk = self.check(a, Vector([1, 0, 0]), Vector([1, 0, 0]))
        self.assertEqual((walk.halt, walk.ending), (3, "row"))
        self.assertTrue(walk.partners[-1].is_zero)
        self.assertEqual([str(part) for part in walk.middles], ["2", "3", "4"])
        self.assertEqual([str(part) for part in walk.links], ["1", "1"])
        self.assertEqual(str(walk.slants(3)), "2 1 0; 1 3 1; 0 1 4")
        self.assertEqual(str(walk.slants(1)), "2")
        self.assertEqual(walk.answer_at(3), inverse(a) * Vector([1, 0, 0]))

    def test_each_of_the_endings(self):
        shift, one = lower_shift(3), Vector([1, 0, 0])
        for side, partner, halt, ending in [
            (Vector([0, 0, 1]), Vector([0, 0, 1]), 1, "row"),
            (Vector([1, 0, 0]), Vector([1, 0, 0]), 1, "partner"),
            (Vector([0, 1, 0]), Vector([0, 1, 0]), 1, "pairing"),
        ]:
            walk = self.check(shift, side, partner)
            self.assertEqual((walk.halt, walk.ending), (halt, ending))
        # Both last ones are zero.
        walk = self.check(diagonal(1, 2, 3), one, one)
        self.assertEqual((walk.halt, walk.ending), (1, "row"))
        self.assertTrue(walk.rows[-1].is_zero and walk.partners[-1].is_zero)

    def test_no_answer_in_the_middle(self):
        walk = self.check(Matrix([[0, 1], [1, 1]]), Vector([1, 0]), Vector([1, 0]))
        self.assertEqual([str(walk.answer_at(k)) for k in range(3)], ["0 0", "None", "-1 1"])

    def test_no_answer_at_the_halt(self):
        # The slants at the halt have no inverse, as the matrix has none.
        walk = self.check(Matrix([[1, 1], [1, 1]]), Vector([1, 0]), Vector([1, 0]))
        self.assertEqual([str(walk.answer_at(k)) for k in range(3)], ["0 0", "1 0", "None"])

    def test_equal_sides_of_a_symmetric_matrix_give_the_walk(self):
        numbers = source(461)
        for size in range(2, 6):
            a = some_matrix(numbers, size, size)
            a = a + a.transpose
            start = some_vector(numbers, size)
            walk = self.check(a, start, start)
            self.assertEqual(walk.rows[:-1], Walk(a, Measure.plain(size), start).rows)
            self.assertEqual(walk.partners, walk.rows)

    def test_numbers_that_were_returned(self):
        numbers = source(462)
        walk = self.check(some_matrix(numbers, 4, 4), some_vector(numbers, 4), some_vector(numbers, 4))
        self.check(walk.slants(4), walk.answer_at(4), walk.partners[2])
        self.assert_made_anew(walk.rows[3])
        self.assert_made_anew(walk.slants(4))
        self.assertEqual(Task(walk.slants(4), walk.answer_at(4), Measure.plain(4)).size, 4)


class MomentsTest(Case):
    def test_many(self):
        for a, side, partner in samples(470):
            for count in (0, 1, 2, 9):
                found = moments(a, side, partner, count)
                self.assertIs(type(found), tuple)
                wanted = [dot(vector, entries(partner)) for vector in (space(a, side, count) if count else [])]
                self.assertEqual([fraction(part) for part in found], wanted)
                self.assertEqual(moments(a, side, partner, count), found)

    def test_counts(self):
        a, side, partner = Matrix([[0, 1], [1, 1]]), Vector([1, 0], 2), Vector([1, 3])
        self.assertEqual(moments(a, side, partner, 0), ())
        self.assertEqual(moments(a, side, partner, 1), (Ratio(1, 2),))
        found = moments(a, side, partner, 40)
        self.assertEqual(len(found), 40)
        self.assertEqual([str(part) for part in found[:5]], ["1/2", "3/2", "2", "7/2", "11/2"])
        self.assertEqual(found[39], found[38] + found[37])

    def test_the_halt_by_determinants(self):
        for a, side, partner in samples(471):
            size = a.height
            told = [fraction(part) for part in moments(a, side, partner, 2 * size + 1)]
            halt = 0
            while halt < size and slow_determinant([told[i:i + halt + 1] for i in range(halt + 1)]) != 0:
                halt += 1
            self.assertEqual(TwoSided(a, side, partner).halt, halt)

    def test_the_moments_of_the_slants(self):
        for a, side, partner in samples(472):
            walk = TwoSided(a, side, partner)
            if walk.halt > 0:
                told = moments(a, side, partner, 2 * walk.halt + 1)
                for i, part in enumerate(told):
                    self.assert_same(part, told[0] * (walk.slants(walk.halt) ** i)[0, 0])
