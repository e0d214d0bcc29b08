"""Point 23: the dots of all pairs of vectors, and their determinants."""

from lastrows.errors import Empty
from lastrows.grams import gram, gram_determinants
from lastrows.matrices import Matrix
from lastrows.measures import Measure
from lastrows.ratios import Ratio
from lastrows.spaces import powers
from lastrows.vectors import Vector
from lastrows.walks import Walk
from tests.support import (Case, entries, fraction, slow_determinant, slow_dot, some_matrix, some_measure, some_vector,
                           source, table)


class GramTest(Case):
    def test_empty(self):
        self.assert_refused(Empty, {}, gram, Measure.plain(3), [])
        self.assert_refused(Empty, {}, gram, Measure.plain(3), ())

    def test_some(self):
        measure = Measure(Matrix([[2, 1], [1, 3]], 2))
        found = gram(measure, [Vector([1, 0]), Vector([0, 1]), Vector([1, 1], 3)])
        self.assertEqual(str(found), "1 1/2 1/2; 1/2 3/2 2/3; 1/2 2/3 7/18")
        self.assertEqual(str(gram(measure, (Vector.zero(2),))), "0")

    def test_many(self):
        numbers = source(230)
        for size in range(1, 11):
            for count in (1, 2, 5, 30):
                measure = some_measure(numbers, size)
                vectors = [some_vector(numbers, size) for _ in range(count)]
                kept = list(vectors)
                found = gram(measure, vectors)
                self.assertEqual(vectors, kept)
                weights = table(measure.matrix)
                rows = [entries(vector) for vector in vectors]
                if count <= 5:
                    self.assertEqual(table(found), [[slow_dot(weights, u, v) for v in rows] for u in rows])
                self.assertEqual((found.height, found.width), (count, count))
                self.assertTrue(found.is_symmetric)


class GramDeterminantsTest(Case):
    def check(self, a, measure, start):
        found = gram_determinants(a, measure, start)
        walk = Walk(a, measure, start)
        self.assertIs(type(found), tuple)
        self.assertEqual(len(found), walk.grade + 1)
        self.assert_same(found[0], Ratio(1))
        self.assertEqual([one.sign for one in found], [1] * len(found))
        for m, square in enumerate(walk.squares):
            self.assert_same(found[m + 1].over(found[m]), square)
        weights = table(measure.matrix)
        for k in range(1, walk.grade + 1):
            rows = [entries(step) for step in powers(a, start, k)]
            wanted = slow_determinant([[slow_dot(weights, u, v) for v in rows] for u in rows])
            self.assertEqual(fraction(found[k]), wanted)
        self.assertEqual(gram_determinants(a, measure, start), found)
        return walk.grade

    def test_many(self):
        numbers = source(231)
        early = 0
        for size in range(2, 6):
            for most in (1, 1, 1, 2, 9, 10 ** 20):
                for measure in (Measure.plain(size), some_measure(numbers, size)):
                    a = some_matrix(numbers, size, size, most)
                    early += self.check(a, measure, some_vector(numbers, size, most)) < size
                    early += self.check(a, measure, Vector.unit(size, 0)) < size
        self.assertGreater(early, 0)

    def test_zero_start(self):
        self.assertEqual(gram_determinants(Matrix.identity(3), Measure.plain(3), Vector.zero(3)), (Ratio(1),))

    def test_a_start_whose_walk_ends_early(self):
        a = Matrix([[1, 1, 0], [1, 1, 0], [0, 0, 7]])
        found = gram_determinants(a, Measure.plain(3), Vector([2, 0, 0]))
        self.assertEqual([str(one) for one in found], ["1", "4", "16"])
