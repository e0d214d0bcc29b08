"""Points 29 and 31: the question for a measure in which the adjoint of a matrix is a given polynomial of it."""

from lastrows.adjoints import measure_with_adjoint, skew_poly
from lastrows.answers import Granted, NoReturn, TraceBar, TraceDiffers, trace_table
from lastrows.cyclic import base_start
from lastrows.errors import DegreeTooLarge, NotCyclic
from lastrows.inverses import inverse
from lastrows.matrices import Matrix
from lastrows.measures import Measure
from lastrows.memories import memory
from lastrows.polys import Poly
from lastrows.ratios import Ratio
from lastrows.spaces import powers
from tests.support import (Case, cycle, diagonal, is_cyclic, lower_shift, slow_degree, some_base, some_cyclic,
                           some_matrix, some_measure, source)

# Its adjoint can be its square: the numbers are 0 and the three with the cube 1.
SQUARE = Matrix([[0, 0, 0, 0], [0, 0, 0, 1], [0, 1, 0, 0], [0, 0, 1, 0]])


def through(places, numbers):
    """Returns the polynomial of the least degree that takes the numbers at the places."""
    total = Poly([])
    for place, number in zip(places, numbers):
        part = Poly([number])
        for other in places:
            if other != place:
                part = part * Poly([-other, 1], place - other)
        total = total + part
    return total


def with_numbers(places, numbers):
    """Returns a diagonal matrix, and the polynomial that makes another diagonal matrix of it."""
    return diagonal(*places), through(places, numbers)


class AdjointCase(Case):
    def check(self, a, poly):
        """Checks that the answer holds and is the first one that applies, and returns it."""
        answer = measure_with_adjoint(a, poly)
        y, size = poly(a), a.height
        differing = [k for k in range(1, size + 1) if (a ** k).trace() != (y ** k).trace()]
        if differing:
            self.assertIs(type(answer), TraceDiffers)
            self.assertEqual(vars(answer), {"granted": False, "power": differing[0]})
        elif poly(y) != a:
            self.assertIs(type(answer), NoReturn)
            self.assertEqual(vars(answer), {"granted": False})
        elif not answer.granted:
            self.check_bar(a, y, answer)
        else:
            self.check_granted(a, y, poly, answer)
        self.assertIs(answer.holds(a, poly), True)
        again = measure_with_adjoint(a, poly)
        self.assertIs(type(again), type(answer))
        self.assertEqual(vars(again), vars(answer))
        return answer

    def check_bar(self, a, y, answer):
        self.assertIs(type(answer), TraceBar)
        witness = answer.witness
        self.assertEqual(vars(answer), {"granted": False, "witness": witness})
        self.assertIn(witness.degree, range(a.height))
        self.assertNotEqual((witness(a) * witness(y)).trace().sign, 1)

    def check_granted(self, a, y, poly, answer):
        self.assertIs(type(answer), Granted)
        self.assertEqual(vars(answer), {"granted": True, "measure": answer.measure})
        self.assert_same(answer.measure.adjoint(a), y)
        steps, dots = powers(a, base_start(a), a.height), trace_table(a, poly)
        for i, left in enumerate(steps):
            for j, right in enumerate(steps):
                self.assert_same(answer.measure.dot(left, right), dots[i, j])


class MeasureWithAdjointTest(AdjointCase):
    def test_the_example_of_the_document(self):
        answer = self.check(Matrix([[0, 2], [1, 0]]), Poly.x())
        self.assertEqual([answer.granted, str(answer.measure.matrix)], [True, "2 0; 0 4"])

    def test_the_least_power(self):
        for places, numbers, power in [
            ((1, 2), (1, 3), 1),
            ((-1, 1), (-2, 2), 2),
            ((0, 1, 3), (0, 2, 6), 1),
            ((1, 5, 6), (2, 3, 7), 3),
            ((0, 4, 7, 11), (1, 2, 9, 10), 4),
            ((0, 4, 8, 16, 17), (1, 2, 10, 14, 18), 5),
        ]:
            a, poly = with_numbers(places, numbers)
            answer = self.check(a, poly)
            self.assertEqual(vars(answer), {"granted": False, "power": power})
            # Here the polynomial of the polynomial is not the matrix either, but the traces come first.
            self.assertTrue(NoReturn().holds(a, poly))

    def test_a_permutation_that_does_not_return(self):
        for places, numbers in [((0, 1, 2), (1, 2, 0)), ((0, 1, 2, 4), (1, 2, 4, 0)), ((0, 1, 2, 4), (0, 2, 4, 1)),
                                ((0, 1, 2, 3, 7), (1, 0, 3, 7, 2))]:
            self.assertIs(type(self.check(*with_numbers(places, numbers))), NoReturn)

    def test_no_return_ahead_of_a_bar(self):
        for size in range(2, 6):
            a = lower_shift(size)
            for poly in (Poly([]), Poly([0, 2]), Poly([0] * (size - 1) + [1]) + Poly([0, 3])):
                self.assertIs(type(self.check(a, poly)), NoReturn)
                self.assertTrue(TraceBar(Poly.x()).holds(a, poly))

    def test_a_trace_that_is_zero(self):
        for size in range(2, 6):
            for poly in (Poly.x(), Poly([0, -1])):
                self.assertIs(type(self.check(lower_shift(size), poly)), TraceBar)

    def test_a_trace_that_is_negative(self):
        for places, numbers in [((1, 2), (2, 1)), ((0, 1, 2), (2, 1, 0)), ((0, 1, 2, 3), (1, 0, 2, 3)),
                                ((0, 1, 2, 3, 7), (1, 0, 2, 7, 3))]:
            self.assertIs(type(self.check(*with_numbers(places, numbers))), TraceBar)
        # Numbers that are not real, while x would leave them as they are.
        self.assertIs(type(self.check(cycle(3), Poly.x())), TraceBar)
        self.assertIs(type(self.check(Matrix([[0, -1], [1, 0]]), Poly.x())), TraceBar)

    def test_real_numbers_that_differ_grant_x(self):
        numbers = source(290)
        for places in ((0, 1), (3, -1, 7), (0, 1, 2, 3), (5, -5, 10 ** 20, 1, 0)):
            base = some_base(numbers, len(places))
            self.assertTrue(self.check(inverse(base) * diagonal(*places) * base, Poly.x()).granted)

    def test_matrices_that_have_a_measure(self):
        numbers = source(291)
        for size in range(2, 6):
            for most in (3, 10 ** 20):
                measure = some_measure(numbers, size, most)
                b = some_matrix(numbers, size, size, most)
                own, skew = b + measure.adjoint(b), b - measure.adjoint(b) + Matrix.identity(size) * Ratio(2, 3)
                if is_cyclic(own):
                    self.assertTrue(self.check(own, Poly.x()).granted)
                if is_cyclic(skew):
                    self.assertTrue(self.check(skew, Poly.of([Ratio(4, 3), Ratio(-1)])).granted)

    def test_polynomials_of_higher_degrees_that_are_granted(self):
        numbers = source(292)
        for a, poly in [(cycle(3), Poly([0, 0, 1])), (cycle(4), Poly([0, 0, 0, 1])), (cycle(5), Poly([0, 0, 0, 0, 1])),
                        (SQUARE, Poly([0, 0, 1]))]:
            self.assertTrue(self.check(a, poly).granted)
            base = some_base(numbers, a.height)
            self.assertTrue(self.check(inverse(base) * a * base, poly).granted)

    def test_many(self):
        numbers = source(293)
        for size in range(2, 6):
            for _ in range(15):
                a = some_cyclic(numbers, size, 1)
                for poly in (Poly.x(), skew_poly(a), Poly([numbers.randint(-2, 2) for _ in range(size)])):
                    self.check(a, poly)

    def test_constant_polynomials_and_zero(self):
        numbers = source(294)
        for size in range(2, 6):
            for a in (some_cyclic(numbers, size), lower_shift(size), cycle(size)):
                for poly in (Poly([]), Poly([1]), Poly.constant(a.trace() * Ratio(1, size))):
                    self.assertFalse(self.check(a, poly).granted)
        self.assertEqual(self.check(cycle(3), Poly([1])).power, 1)
        self.assertEqual(self.check(cycle(3), Poly([])).power, 3)
        self.assertIs(type(self.check(lower_shift(3), Poly([]))), NoReturn)

    def test_a_base_start_that_is_not_the_first(self):
        a = diagonal(1, 2, 3)
        self.assertEqual(str(base_start(a)), "1 1 1")
        answer = self.check(a, Poly.x())
        self.assertEqual(str(answer.measure.matrix), "1 0 0; 0 1 0; 0 0 1")

    def test_not_cyclic(self):
        for a in (Matrix.identity(2), diagonal(1, 2, 1), Matrix.zero(4, 4), diagonal(1, 1, 2, 2, 3)):
            for poly in (Poly.x(), Poly([]), Poly([0] * 6 + [1])):
                self.assert_refused(NotCyclic, {"found": slow_degree(a)}, measure_with_adjoint, a, poly)

    def test_degree_too_large(self):
        for size in range(2, 6):
            for degree in (size, size + 1, 20):
                self.assert_refused(DegreeTooLarge, {"found": degree}, measure_with_adjoint, cycle(size),
                                    Poly([0] * degree + [1]))
            self.check(cycle(size), Poly([0] * (size - 1) + [1]))


class SkewPolyTest(AdjointCase):
    def test_cyclic_and_other_matrices(self):
        self.assertEqual(str(skew_poly(cycle(3))), "0 -1")
        self.assertEqual(str(skew_poly(diagonal(1, 2))), "3 -1")
        self.assertEqual(str(skew_poly(diagonal(1, 2, 1))), "8/3 -1")
        self.assertEqual(str(skew_poly(Matrix.identity(4) * Ratio(5, 2))), "5 -1")
        self.assertEqual(str(skew_poly(Matrix.zero(5, 5))), "0 -1")
        numbers = source(295)
        for size in range(2, 6):
            a = some_matrix(numbers, size, size, 10 ** 20)
            self.assert_same(skew_poly(a), Poly.constant(a.trace() * Ratio(2, size)) - Poly.x())
            self.assert_same(skew_poly(a)(a).trace(), a.trace())

    def test_a_memory_of_one(self):
        # Where the memory in a measure is 1, the polynomial is x or the skew one.
        numbers = source(296)
        seen = set()
        for size in range(3, 6):
            measure = some_measure(numbers, size)
            for sign in (1, -1):
                b = some_matrix(numbers, size, size, 3)
                a = b + measure.adjoint(b) * sign + Matrix.identity(size)
                if is_cyclic(a):
                    poly = Poly.x() if sign == 1 else skew_poly(a)
                    self.assert_same(memory(a, measure).poly, poly)
                    granted = self.check(a, poly).measure
                    self.assertEqual(memory(a, granted).least, 1)
                    seen.add((size, sign))
        self.assertGreaterEqual(len(seen), 5)

    def test_size_two_has_a_memory_of_one_in_every_measure(self):
        a = lower_shift(2)
        self.assertFalse(self.check(a, Poly.x()).granted)
        self.assertFalse(self.check(a, skew_poly(a)).granted)
        self.assertEqual(memory(a, Measure.plain(2)).least, 1)
