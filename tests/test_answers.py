"""Points 28 and 30: tables of traces, and the answers to the question for a measure with a given adjoint."""

from fractions import Fraction

from lastrows.answers import AdjointAnswer, Granted, NoReturn, TraceBar, TraceDiffers, trace_table
from lastrows.matrices import Matrix
from lastrows.measures import Measure
from lastrows.polys import Poly
from lastrows.ratios import Ratio
from tests.support import (Case, cycle, diagonal, fraction, lower_shift, some_cyclic, some_matrix, some_measure, source,
                           table)


def product(left, right):
    return [[sum((one * two for one, two in zip(row, column)), Fraction(0)) for column in zip(*right)] for row in left]


def power(rows, k):
    found = [[Fraction(i == j) for j in range(len(rows))] for i in range(len(rows))]
    for _ in range(k):
        found = product(found, rows)
    return found


def value(poly, rows):
    """Returns a polynomial of a table of fractions."""
    found = [[Fraction(0)] * len(rows) for _ in rows]
    for k in range(len(poly)):
        step = power(rows, k)
        found = [[one + fraction(poly[k]) * two for one, two in zip(left, right)] for left, right in zip(found, step)]
    return found


def trace(rows):
    return sum((row[i] for i, row in enumerate(rows)), Fraction(0))


class TraceTableTest(Case):
    def check(self, a, poly):
        found = trace_table(a, poly)
        self.assertEqual((found.height, found.width), (a.height, a.height))
        left, right = table(a), value(poly, table(a))
        wanted = [[trace(product(power(left, i), power(right, j))) for j in range(a.height)] for i in range(a.height)]
        self.assertEqual(table(found), wanted)
        self.assert_same(trace_table(a, poly), found)
        return found

    def test_cyclic_matrices(self):
        numbers = source(280)
        for size in range(2, 6):
            for poly in (Poly([]), Poly([3], 2), Poly.x(), Poly([1, -1]), Poly([1, 2, 3], 4), Poly([0, 0, 0, 0, 0, 1])):
                self.check(some_cyclic(numbers, size, 3), poly)

    def test_other_matrices(self):
        for a in (Matrix.identity(2), Matrix.zero(4, 4), diagonal(1, 2, 1), Matrix.identity(5) * Ratio(-2, 3)):
            for poly in (Poly([]), Poly.x(), Poly([1, 2, 3], 4)):
                self.check(a, poly)

    def test_some(self):
        self.assertEqual(str(self.check(Matrix([[0, 2], [1, 0]]), Poly.x())), "2 0; 0 4")
        self.assertEqual(str(self.check(diagonal(1, 2), Poly([3, -1]))), "2 3; 3 4")
        self.assertEqual(str(self.check(diagonal(1, 2, 1), Poly([]))), "3 0 0; 4 0 0; 6 0 0")
        # The rows belong to the powers of the matrix, the columns to those of the polynomial.
        self.assertEqual(str(self.check(diagonal(1, 2), Poly([0, 0, 1]))), "2 5; 3 9")

    def test_a_high_degree_and_large_numbers(self):
        numbers = source(281)
        poly = Poly([numbers.randint(-10 ** 20, 10 ** 20) for _ in range(21)], 10 ** 19 + 1)
        self.assert_made_anew(self.check(some_matrix(numbers, 5, 5, 10 ** 20), poly))


class AttributesTest(Case):
    def test_the_base_class(self):
        for granted in (True, False):
            answer = AdjointAnswer(granted)
            self.assertEqual(vars(answer), {"granted": granted})
            self.assertIs(answer.holds(cycle(3), Poly([0, 0, 1])), False)
            self.assertIs(answer.holds(cycle(3), Poly.x()), False)

    def test_each_class(self):
        witness, measure = Poly([1, 2]), Measure.plain(2)
        self.assertEqual(vars(TraceDiffers(3)), {"granted": False, "power": 3})
        self.assertEqual(vars(NoReturn()), {"granted": False})
        self.assertEqual(vars(TraceBar(witness)), {"granted": False, "witness": witness})
        self.assertEqual(vars(Granted(measure)), {"granted": True, "measure": measure})
        for answer in (TraceDiffers(3), NoReturn(), TraceBar(witness), Granted(measure)):
            self.assertIsInstance(answer, AdjointAnswer)
            self.assertEqual(type(answer).__bases__, (AdjointAnswer,))


class HoldsTest(Case):
    def assert_holds(self, wanted, answer, a, poly):
        for _ in range(2):
            self.assertIs(answer.holds(a, poly), wanted)

    def test_trace_differs(self):
        a, poly = cycle(3), Poly([0, 0, 1])
        for k in (1, 2, 3):
            self.assert_holds(False, TraceDiffers(k), a, poly)
        a, poly = diagonal(0, 1, 3), Poly([0, 2])
        for k in (-10 ** 20, -1, 0, 1, 2, 3, 4, 10 ** 20):
            self.assert_holds(1 <= k <= 3, TraceDiffers(k), a, poly)
        a, poly = diagonal(-1, 1), Poly([0, 2])
        self.assert_holds(False, TraceDiffers(1), a, poly)
        self.assert_holds(True, TraceDiffers(2), a, poly)

    def test_trace_differs_at_many_powers(self):
        numbers = source(282)
        for size in range(2, 6):
            for _ in range(10):
                a = some_cyclic(numbers, size, 1)
                poly = Poly([numbers.randint(-1, 1) for _ in range(size)])
                for k in range(-1, size + 3):
                    left, right = power(table(a), max(k, 0)), power(value(poly, table(a)), max(k, 0))
                    self.assert_holds(1 <= k <= size and trace(left) != trace(right), TraceDiffers(k), a, poly)

    def test_no_return(self):
        self.assert_holds(False, NoReturn(), cycle(3), Poly([0, 0, 1]))
        self.assert_holds(False, NoReturn(), cycle(3), Poly.x())
        self.assert_holds(True, NoReturn(), cycle(3), Poly([1, 1]))
        self.assert_holds(False, NoReturn(), cycle(3), Poly([7, -1]))
        self.assert_holds(True, NoReturn(), cycle(3), Poly([]))
        self.assert_holds(True, NoReturn(), cycle(3), Poly([1]))
        self.assert_holds(False, NoReturn(), cycle(4), Poly([0, 0, 0, 1]))
        self.assert_holds(True, NoReturn(), cycle(5), Poly([0, 0, 1]))
        self.assert_holds(True, NoReturn(), lower_shift(3), Poly([0, 0, 1]))

    def test_trace_bar(self):
        # For the numbers 1 and 2 and the polynomial 3 - x, the trace is f(1) f(2) + f(2) f(1).
        a, poly = diagonal(1, 2), Poly([3, -1])
        self.assert_holds(True, TraceBar(Poly([-1, 1])), a, poly)
        self.assert_holds(True, TraceBar(Poly([-3, 2])), a, poly)
        self.assert_holds(False, TraceBar(Poly([1])), a, poly)
        self.assert_holds(False, TraceBar(Poly([-3, 1])), a, poly)
        self.assert_holds(False, TraceBar(Poly([])), a, poly)
        # This one has the degree 2, though it takes the same values as one of the degree 1.
        self.assert_holds(False, TraceBar(Poly([-1, 1]) + Poly([2, -3, 1])), a, poly)
        self.assert_holds(False, TraceBar(Poly([2, -3, 1])), a, poly)
        self.assert_holds(False, TraceBar(Poly([0] * 20 + [1])), a, poly)

    def test_trace_bar_where_the_answer_is_another_one(self):
        # Each answer is checked by itself: here the traces differ, but a bar holds as well.
        a, poly = diagonal(0, 1, 3), Poly([0, -2])
        self.assert_holds(True, TraceBar(Poly.x()), a, poly)
        self.assert_holds(True, TraceDiffers(1), a, poly)
        self.assert_holds(True, NoReturn(), a, poly)

    def test_trace_bar_of_zero_and_constant_polynomials(self):
        self.assert_holds(True, TraceBar(Poly.x()), cycle(3), Poly([]))
        self.assert_holds(False, TraceBar(Poly([2])), cycle(3), Poly([]))
        self.assert_holds(True, TraceBar(Poly([1, 1])), cycle(3), Poly([-1]))

    def test_granted(self):
        plain = Measure.plain(3)
        self.assert_holds(True, Granted(plain), cycle(3), Poly([0, 0, 1]))
        self.assert_holds(True, Granted(plain * 5), cycle(3), Poly([0, 0, 1]))
        self.assert_holds(False, Granted(plain), cycle(3), Poly.x())
        self.assert_holds(False, Granted(plain), cycle(3), Poly([]))
        self.assert_holds(False, Granted(Measure.weights(Ratio(1), Ratio(2), Ratio(3))), cycle(3), Poly([0, 0, 1]))
        for size in (1, 2, 4, 10):
            self.assert_holds(False, Granted(Measure.plain(size)), cycle(3), Poly([0, 0, 1]))

    def test_granted_of_many(self):
        numbers = source(283)
        for size in range(2, 6):
            measure = some_measure(numbers, size)
            a = some_cyclic(numbers, size)
            own = a + measure.adjoint(a)
            self.assert_holds(True, Granted(measure), own, Poly.x())
            self.assert_holds(measure.adjoint(a) == a, Granted(measure), a, Poly.x())
