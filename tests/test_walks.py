"""Points 20 and 21: the walk, its rows, squares, shares and polynomials, its band and its hessenberg matrices."""

from lastrows.matrices import Matrix
from lastrows.measures import Measure
from lastrows.polys import Poly
from lastrows.ratios import Ratio
from lastrows.spaces import annihilator, grade, powers
from lastrows.vectors import Vector
from lastrows.walks import Walk
from tests.support import (Case, cycle, entries, fraction, slow_band, slow_dot, slow_rank, slow_walk, some_matrix,
                           some_measure, some_vector, source, table)

SHIFT = cycle(3)


def samples():
    """Yields matrices, measures and starts of the sizes 2 to 5, plain measures and starts that end early among them."""
    numbers = source(200)
    for size in range(2, 6):
        for most in (1, 1, 1, 2, 9):
            for measure in (Measure.plain(size), some_measure(numbers, size)):
                a = some_matrix(numbers, size, size, most)
                yield a, measure, some_vector(numbers, size, most)
                yield a, measure, Vector.unit(size, numbers.randrange(size))
                yield a + a.transpose, measure, some_vector(numbers, size, most)
                yield Matrix.diagonal(*[Ratio(numbers.randint(0, 2)) for _ in range(size)]), measure, some_vector(
                    numbers, size, most)


class WalkCase(Case):
    def check(self, a, measure, start):
        """Checks all that points 20 and 21 say of one walk, and returns it."""
        walk = Walk(a, measure, start)
        rows, shares = slow_walk(a, measure, start)
        self.assertEqual([entries(row) for row in walk.rows], rows)
        self.assertEqual([[fraction(share) for share in told] for told in walk.shares], shares)
        weights = table(measure.matrix)
        self.assertEqual([fraction(square) for square in walk.squares], [slow_dot(weights, row, row) for row in rows])
        self.assertEqual(walk.grade, len(rows))
        self.assertEqual(walk.grade, grade(a, start))
        self.assertEqual(len(walk), len(rows))
        self.assertEqual([entries(row) for row in walk], rows)
        self.assertEqual(walk.band, slow_band(shares))
        for part in (walk.rows, walk.squares, walk.shares, walk.polys, *walk.shares):
            self.assertIs(type(part), tuple)
        self.check_polys(a, start, walk)
        self.check_hessenberg(walk)
        self.check_spaces(a, start, walk)
        self.assertEqual(vars(walk), vars(Walk(a, measure, start)))
        return walk

    def check_polys(self, a, start, walk):
        self.assertEqual(len(walk.polys), walk.grade + 1)
        for k, poly in enumerate(walk.polys):
            self.assertEqual(poly.degree, k)
            self.assert_same(poly[k], Ratio(1))
            self.assert_same(poly(a) * start, walk.rows[k] if k < walk.grade else Vector.zero(len(start)))
        self.assert_same(walk.polys[-1], annihilator(a, start))
        for m, told in enumerate(walk.shares):
            total = walk.polys[m + 1]
            for share, poly in zip(told, walk.polys):
                total = total + poly * share
            self.assert_same(Poly.x() * walk.polys[m], total)

    def check_hessenberg(self, walk):
        for k in range(1, walk.grade + 1):
            found = walk.hessenberg(k)
            self.assertEqual((found.height, found.width), (k, k))
            for i in range(k):
                for m in range(k):
                    wanted = walk.shares[m][i] if i <= m else Ratio(1 if i == m + 1 else 0)
                    self.assert_same(found[i, m], wanted)
            self.assert_same(walk.hessenberg(k), found)

    def check_spaces(self, a, start, walk):
        for k in range(1, walk.grade + 1):
            steps = [entries(step) for step in powers(a, start, k)]
            self.assertEqual(slow_rank(steps + [entries(row) for row in walk.rows[:k]]), k)


class WalkTest(WalkCase):
    def test_many(self):
        early = 0
        bands = set()
        for a, measure, start in samples():
            walk = self.check(a, measure, start)
            early += 0 < walk.grade < a.height
            bands.add(walk.band)
        self.assertGreater(early, 20)
        self.assertEqual(bands, {0, 1, 2, 3, 4})

    def test_large_numbers(self):
        numbers = source(201)
        for size in range(2, 6):
            a = some_matrix(numbers, size, size, 10 ** 20)
            measure = some_measure(numbers, size, 10 ** 49)
            walk = self.check(a, measure, some_vector(numbers, size, 10 ** 20))
            self.assert_made_anew(walk.rows[-1])
            self.assert_made_anew(walk.polys[-1])
            self.assert_made_anew(walk.hessenberg(size))
            # What the package has returned may be passed in again.
            self.assertEqual(Walk(a, measure, walk.rows[-1]).grade, size)

    def test_zero_start(self):
        for size in range(2, 6):
            walk = self.check(some_matrix(source(202), size, size), Measure.plain(size), Vector.zero(size))
            self.assertEqual((walk.rows, walk.squares, walk.shares), ((), (), ()))
            self.assertEqual((walk.grade, walk.band, len(walk), list(walk)), (0, 0, 0, []))
            self.assertEqual(walk.polys, (Poly([1]),))

    def test_a_start_whose_walk_ends_at_once(self):
        a = Matrix([[2, 1], [0, 3]])
        walk = self.check(a, Measure(Matrix([[2, 1], [1, 2]])), Vector([5, 5], 2))
        self.assertEqual([str(row) for row in walk], ["5/2 5/2"])
        self.assertEqual([[str(share) for share in told] for told in walk.shares], [["3"]])
        self.assertEqual((walk.grade, walk.band), (1, 0))
        self.assertEqual([str(poly) for poly in walk.polys], ["1", "-3 1"])
        self.assertEqual(str(walk.hessenberg(1)), "3")
        self.assertEqual(self.check(Matrix.zero(3, 3), Measure.plain(3), Vector([1, 2, 3])).grade, 1)

    def test_a_start_whose_walk_ends_early(self):
        a = Matrix([[1, 1, 0], [1, 1, 0], [0, 0, 7]])
        walk = self.check(a, Measure.plain(3), Vector([2, 0, 0]))
        self.assertEqual([str(row) for row in walk], ["2 0 0", "0 2 0"])
        self.assertEqual([[str(share) for share in told] for told in walk.shares], [["1"], ["1", "1"]])
        self.assertEqual([str(poly) for poly in walk.polys], ["1", "-1 1", "0 -2 1"])
        self.assertEqual(str(walk.hessenberg(2)), "1 1; 1 1")

    def test_the_shares_of_the_last_row_count(self):
        # Here nothing but the zero row at the end needs an earlier row.
        walk = self.check(SHIFT, Measure.plain(3), Vector([1, 0, 0]))
        told = [[str(share) for share in told] for told in walk.shares]
        self.assertEqual(told, [["0"], ["0", "0"], ["1", "0", "0"]])
        self.assertEqual(walk.band, 2)
        self.assertEqual(str(walk.hessenberg(3)), "0 0 1; 1 0 0; 0 1 0")
        self.assertEqual(str(walk.polys[3]), "-1 0 0 1")

    def test_a_long_walk_without_shares_has_no_band(self):
        a = Matrix([[0, 0, 0], [1, 0, 0], [0, 1, 0]])
        walk = self.check(a, Measure.plain(3), Vector([1, 0, 0]))
        self.assertEqual((walk.grade, walk.band), (3, 0))

    def test_the_measure_counts(self):
        a = Matrix([[2, 1], [1, 3]])
        plain = self.check(a, Measure.plain(2), Vector([1, 0]))
        other = self.check(a, Measure(Matrix([[2, 1], [1, 1]])), Vector([1, 0]))
        self.assertEqual([str(row) for row in plain], ["1 0", "0 1"])
        self.assertEqual([str(row) for row in other], ["1 0", "-1/2 1"])
        self.assertEqual([str(square) for square in other.squares], ["2", "1/2"])

    def test_symmetric_matrices_have_a_band_of_one(self):
        numbers = source(203)
        for size in range(2, 6):
            a = some_matrix(numbers, size, size)
            walk = self.check(a + a.transpose, Measure.plain(size), some_vector(numbers, size))
            self.assertEqual((walk.grade, walk.band), (size, 1))

    def test_iterating_twice(self):
        walk = Walk(SHIFT, Measure.plain(3), Vector([1, 2, 4]))
        pairs = [(str(one), str(two)) for one in walk for two in walk]
        self.assertEqual(len(pairs), 9)
        self.assertEqual(list(walk), list(walk.rows))
