"""Point 32: measures with the same adjoint."""

from lastrows.errors import NotCyclic, NotPositive, NotSymmetric
from lastrows.factors import adjoint_factor, measure_times
from lastrows.matrices import Matrix
from lastrows.measures import Measure
from lastrows.polys import Poly
from lastrows.ratios import Ratio
from lastrows.vectors import Vector
from tests.support import (Case, cycle, diagonal, is_cyclic, slow_degree, some_cyclic, some_matrix, some_measure,
                           source)


class AdjointFactorTest(Case):
    def check(self, a, first, second):
        found = adjoint_factor(a, first, second)
        self.assertEqual(found is not None, first.adjoint(a) == second.adjoint(a))
        if found is not None:
            self.assertLess(found.degree, a.height)
            self.assert_same(first.matrix * found(a), second.matrix)
        self.assertEqual(adjoint_factor(a, first, second), found)
        return found

    def test_multiples_of_a_measure(self):
        numbers = source(320)
        for size in range(2, 6):
            a, measure = some_cyclic(numbers, size), some_measure(numbers, size)
            self.assert_same(self.check(a, measure, measure), Poly([1]))
            self.assert_same(self.check(a, measure, measure * Ratio(7, 3)), Poly([7], 3))

    def test_measures_with_the_same_adjoint(self):
        numbers = source(321)
        seen = 0
        for size in range(2, 6):
            for _ in range(5):
                first = some_measure(numbers, size)
                b = some_matrix(numbers, size, size, 3)
                a = b + first.adjoint(b)
                if not is_cyclic(a):
                    continue
                factor = Poly([numbers.randint(-3, 3), numbers.randint(1, 3)], 2) ** 2 + Poly([1], 5)
                second = measure_times(a, first, factor)
                self.assert_same(self.check(a, first, second)(a), factor(a))
                if size > 2:
                    self.assert_same(self.check(a, first, second), factor)
                self.assert_same(self.check(a, second, first)(a) * factor(a), Matrix.identity(size))
                seen += 1
        self.assertGreater(seen, 15)

    def test_measures_with_different_adjoints(self):
        numbers = source(322)
        for size in range(2, 6):
            a = some_cyclic(numbers, size)
            first, second = some_measure(numbers, size), some_measure(numbers, size)
            self.assertNotEqual(first.adjoint(a), second.adjoint(a))
            self.assertIsNone(self.check(a, first, second))
        self.assertIsNone(self.check(cycle(3), Measure.plain(3), Measure.weights(Ratio(1), Ratio(2), Ratio(1))))

    def test_a_diagonal_matrix(self):
        a = diagonal(1, 2, 3)
        found = self.check(a, Measure.plain(3), Measure.weights(Ratio(1), Ratio(4), Ratio(9)))
        self.assertEqual(str(found), "0 0 1")
        found = self.check(a, Measure.plain(3), Measure(Matrix([[2, 1, 0], [1, 2, 0], [0, 0, 1]])))
        self.assertIsNone(found)

    def test_large_numbers(self):
        numbers = source(323)
        first = some_measure(numbers, 5, 10 ** 49)
        b = some_matrix(numbers, 5, 5, 10 ** 20)
        a = b + first.adjoint(b)
        factor = Poly([10 ** 20 - 1, 0, 10 ** 19 + 3], 10 ** 20 - 3)
        self.assert_same(self.check(a, first, measure_times(a, first, factor)), factor)

    def test_not_cyclic(self):
        numbers = source(324)
        for a in (Matrix.identity(2), diagonal(1, 2, 1), Matrix.zero(4, 4), diagonal(1, 1, 2, 2, 3)):
            first, second = some_measure(numbers, a.height), some_measure(numbers, a.height)
            for other in (first, second):
                self.assert_refused(NotCyclic, {"found": slow_degree(a)}, adjoint_factor, a, first, other)


class MeasureTimesTest(Case):
    def test_cyclic_and_other_matrices(self):
        for a in (diagonal(1, 2, 3), diagonal(1, 2, 1), Matrix.identity(3), Matrix.zero(3, 3)):
            for poly in (Poly([1, 0, 1]), Poly([5, 1]), Poly([1], 3)):
                found = measure_times(a, Measure.plain(3), poly)
                self.assert_same(found, Measure(poly(a)))
        measure = Measure(Matrix([[2, 1], [1, 3]]))
        self.assertEqual(str(measure_times(Matrix.identity(2), measure, Poly([1, 3], 2)).matrix), "4 2; 2 6")

    def test_a_polynomial_of_a_high_degree(self):
        found = measure_times(diagonal(1, 2), Measure.plain(2), Poly([0] * 20 + [1]))
        self.assert_same(found.matrix, diagonal(1, 2 ** 20))

    def test_not_symmetric(self):
        for a, measure, poly, first, second in [
            (cycle(3), Measure.plain(3), Poly.x(), 0, 1),
            (Matrix([[1, 0, 0], [0, 1, 1], [0, 0, 2]]), Measure.plain(3), Poly.x(), 1, 2),
            (diagonal(1, 2), Measure(Matrix([[2, 1], [1, 2]])), Poly.x(), 0, 1),
            # Not positive either, but this comes behind.
            (cycle(3) * -5, Measure.plain(3), Poly([-1, 1]), 0, 1),
        ]:
            self.assert_refused(NotSymmetric, {"first": first, "second": second}, measure_times, a, measure, poly)

    def test_not_positive(self):
        for a, poly in [(diagonal(1, 2), Poly([])), (diagonal(1, 2), Poly([-1])), (diagonal(1, 2), Poly([-1, 1])),
                        (diagonal(1, 2, 1), Poly([-3, 2])), (Matrix([[1, 2], [2, 1]]), Poly.x())]:
            measure = Measure.plain(a.height)
            errors = [self.caught(NotPositive, measure_times, a, measure, poly) for _ in range(2)]
            self.assertEqual(vars(errors[0]), vars(errors[1]))
            witness = errors[0].witness
            self.assertEqual(vars(errors[0]), {"witness": witness, "word": "positive"})
            self.assertIs(type(witness), Vector)
            self.assertFalse(witness.is_zero)
            self.assertNotEqual(witness.dot(poly(a) * witness).sign, 1)
