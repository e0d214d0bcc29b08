"""Point 33: the least memory over all measures."""

from lastrows.adjoints import measure_with_adjoint, skew_poly
from lastrows.answers import NoReturn, TraceBar, TraceDiffers
from lastrows.errors import NotCyclic, SizeOutOfRange
from lastrows.inverses import inverse
from lastrows.leastmemory import LeastMemory, least_memory, only_quadratic
from lastrows.matrices import Matrix
from lastrows.measures import Measure
from lastrows.memories import memory
from lastrows.polys import Poly
from lastrows.ratios import Ratio
from tests.support import (Case, companion, cycle, diagonal, is_cyclic, lower_shift, slow_degree, some_base,
                           some_cyclic, some_matrix, some_measure, source)


def quadratic(g, h, t):
    """Returns the polynomial g * ((x - t)^2 + h) + t."""
    centered = Poly.of([-t, Ratio(1)])
    return (centered * centered + Poly.constant(h)) * g + Poly.constant(t)


def returning(poly):
    """Returns a matrix of size 4 for which the polynomial of the polynomial is the matrix."""
    return companion((poly.compose(poly) - Poly.x()).monic())


def turned(a, numbers):
    base = some_base(numbers, a.height)
    return inverse(base) * a * base


class LeastMemoryTest(Case):
    def check(self, a):
        """Checks all that point 33 says of the least memory of a matrix, and returns it."""
        found = least_memory(a)
        size = a.height
        self.assertEqual(memory(a, found.measure).least, found.least)
        answers = [found.straight, found.skew, found.quadratic]
        polys = [Poly.x(), skew_poly(a), only_quadratic(a) if size == 4 else None]
        for answer, poly in zip(answers, polys):
            if answer is not None:
                self.assertTrue(answer.holds(a, poly))
                wanted = measure_with_adjoint(a, poly)
                self.assertIs(type(answer), type(wanted))
                self.assertEqual(vars(answer), vars(wanted))
        granted = [answer is not None and answer.granted for answer in answers]
        if any(granted):
            place = granted.index(True)
            self.assertEqual(found.least, [1, 1, 2][place])
            self.assert_same(found.measure, answers[place].measure)
            self.assertEqual(answers[place + 1:], [None] * (2 - place))
            self.assertNotIn(None, answers[:place])
        else:
            self.assertEqual(found.least, size - 1)
            self.assert_same(found.measure, Measure.plain(size))
            self.assertEqual([answer is None for answer in answers],
                             [size == 2, size == 2, size < 4 or only_quadratic(a) is None])
        return found

    def test_size_two(self):
        numbers = source(330)
        for a in [diagonal(1, 2), lower_shift(2), cycle(2), Matrix([[0, -1], [1, 0]])] + [
                some_cyclic(numbers, 2, most) for most in (1, 2, 9, 10 ** 20)]:
            found = self.check(a)
            self.assertEqual((found.least, found.straight, found.skew, found.quadratic), (1, None, None, None))
            self.assert_same(found.measure, Measure.plain(2))

    def test_straight(self):
        numbers = source(331)
        for places in ((0, 1, 2), (5, -1, 3), (0, 1, 2, 3), (7, -7, 10 ** 20, 0)):
            found = self.check(turned(diagonal(*places), numbers))
            self.assertEqual((found.least, found.skew, found.quadratic), (1, None, None))
            self.assertTrue(found.straight.granted)

    def test_skew(self):
        numbers = source(332)
        spin = Matrix([[1, 0, 0], [0, 1, -2], [0, 2, 1]])
        spins = Matrix([[2, -1, 0, 0], [1, 2, 0, 0], [0, 0, 2, -3], [0, 0, 3, 2]])
        for a in (spin, spins):
            found = self.check(turned(a, numbers))
            self.assertEqual((found.least, found.quadratic), (1, None))
            self.assertFalse(found.straight.granted)
            self.assertTrue(found.skew.granted)
        for size in (3, 4):
            measure, b = some_measure(numbers, size), some_matrix(numbers, size, size)
            a = b - measure.adjoint(b) + Matrix.identity(size) * Ratio(1, 3)
            if is_cyclic(a):
                self.assertTrue(self.check(a).skew.granted)

    def test_size_three_without_any(self):
        numbers = source(333)
        for a in (cycle(3), lower_shift(3), turned(cycle(3), numbers), diagonal(1, 1, 2) + lower_shift(3)):
            found = self.check(a)
            self.assertEqual((found.least, found.quadratic), (2, None))
            self.assertEqual((found.straight.granted, found.skew.granted), (False, False))
            self.assert_same(found.measure, Measure.plain(3))

    def test_quadratic(self):
        numbers = source(334)
        for g, h, t in [(Ratio(1), Ratio(0), Ratio(0)), (Ratio(-2), Ratio(0), Ratio(1, 3)),
                        (Ratio(3, 2), Ratio(-1, 4), Ratio(-5)), (Ratio(1), Ratio(-1, 2), Ratio(7, 2))]:
            poly = quadratic(g, h, t)
            a = turned(returning(poly), numbers)
            found = self.check(a)
            self.assertEqual(found.least, 2)
            self.assertTrue(found.quadratic.granted)
            self.assert_same(found.measure.adjoint(a), poly(a))

    def test_a_quadratic_that_is_not_granted(self):
        numbers = source(335)
        # The first has numbers that are not real and that the polynomial leaves as they are; the second has a number
        # twice.
        for g, h, t in [(Ratio(1), Ratio(1), Ratio(0)), (Ratio(1), Ratio(-3, 4), Ratio(2)),
                        (Ratio(-2, 3), Ratio(5), Ratio(1, 2))]:
            found = self.check(turned(returning(quadratic(g, h, t)), numbers))
            self.assertEqual(found.least, 3)
            self.assertIs(type(found.quadratic), TraceBar)
            self.assert_same(found.measure, Measure.plain(4))

    def test_no_quadratic(self):
        numbers = source(336)
        for a in (cycle(4), lower_shift(4), some_cyclic(numbers, 4), companion(Poly([3, 1, 0, 0, 1]))):
            found = self.check(a)
            if not (found.straight.granted or found.skew.granted):
                self.assertEqual((found.least, found.quadratic), (3, None))
        self.assertEqual(least_memory(cycle(4)).least, 3)
        self.assertEqual(least_memory(lower_shift(4)).least, 3)

    def test_many(self):
        numbers = source(337)
        for size in (2, 3, 4):
            for most in (1, 1, 1, 2, 9, 10 ** 20):
                self.check(some_cyclic(numbers, size, most))

    def test_asking_twice(self):
        for a in (diagonal(1, 2), diagonal(1, 2, 3), cycle(3), cycle(4), returning(Poly([0, 0, 1]))):
            one, two = least_memory(a), least_memory(a)
            self.assertEqual((one.least, one.measure), (two.least, two.measure))
            for left, right in [(one.straight, two.straight), (one.skew, two.skew), (one.quadratic, two.quadratic)]:
                self.assertEqual(left and vars(left), right and vars(right))

    def test_size_out_of_range(self):
        numbers = source(338)
        for size in (1, 5, 6, 10, 30):
            for a in (Matrix.identity(size), some_matrix(numbers, size, size), lower_shift(size)):
                self.assert_refused(SizeOutOfRange, {"size": size}, least_memory, a)

    def test_not_cyclic(self):
        for a in (Matrix.identity(2), diagonal(1, 2, 1), Matrix.zero(4, 4), Matrix.identity(3) * Ratio(2, 3)):
            self.assert_refused(NotCyclic, {"found": slow_degree(a)}, least_memory, a)

    def test_the_attributes(self):
        measure = Measure.plain(4)
        straight, skew, other = TraceDiffers(1), NoReturn(), TraceBar(Poly.x())
        self.assertEqual(vars(LeastMemory(3, measure, straight, skew, other)),
                         {"least": 3, "measure": measure, "straight": straight, "skew": skew, "quadratic": other})
        self.assertEqual(vars(LeastMemory(1, measure, None, None, None)),
                         {"least": 1, "measure": measure, "straight": None, "skew": None, "quadratic": None})


class OnlyQuadraticTest(Case):
    def check(self, a, wanted):
        found = only_quadratic(a)
        self.assertEqual(found, wanted)
        self.assertEqual(only_quadratic(a), found)
        if found is not None:
            self.assertEqual(found.degree, 2)
            self.assert_same(found(found(a)), a)

    def test_some(self):
        square = Poly([0, 0, 1])
        self.check(Matrix([[0, 0, 0, 0], [0, 0, 0, 1], [0, 1, 0, 0], [0, 0, 1, 0]]), square)
        self.check(Matrix([[2, 0, 0, 0], [0, 2, 0, 1], [0, 1, 2, 0], [0, 0, 1, 2]]), Poly([6, -4, 1]))

    def test_polynomials_that_return(self):
        numbers = source(339)
        for _ in range(40):
            g = Ratio(numbers.choice([-1, 1]) * numbers.randint(1, 30), numbers.randint(1, 30))
            h, t = [Ratio(numbers.randint(-20, 20), numbers.randint(1, 9)) for _ in range(2)]
            poly = quadratic(g, h, t)
            self.check(returning(poly), poly)
            self.check(turned(returning(poly), numbers), poly)

    def test_large_cubes(self):
        for g in (Ratio(10 ** 6 + 1, 10 ** 6), Ratio(-10 ** 6, 999999), Ratio(1, 3 ** 12), Ratio(2 ** 20)):
            poly = quadratic(g, Ratio(1, 2), Ratio(3))
            self.check(returning(poly), poly)
        # What the package has made may have numbers of any length.
        poly = quadratic(Ratio(10 ** 40 + 1, 7 ** 50), Ratio(-10 ** 30 + 7, 11), Ratio(5, 10 ** 25 + 1))
        self.check(returning(poly), poly)

    def test_without_a_linear_coefficient(self):
        self.check(cycle(4), None)
        self.check(lower_shift(4), None)
        self.check(companion(Poly([0, 0, 3, 0, 1])), None)
        self.check(diagonal(1, -1, 2, -2), None)

    def test_without_a_cube(self):
        # With h = 0 the constant coefficient is as it has to be.
        for linear in (Ratio(2), Ratio(-2), Ratio(4), Ratio(8, 9), Ratio(9, 8), Ratio(-10 ** 18 + 1), Ratio(3, 5)):
            self.check(companion(Poly.of([Ratio(0), linear, Ratio(0), Ratio(0), Ratio(1)])), None)
        self.check(companion(Poly([0, -1, 0, 0, 1])), Poly([0, 0, 1]))
        self.check(companion(Poly([0, 1, 0, 0, 1])), Poly([0, 0, -1]))
        self.check(companion(Poly([0, 8, 0, 0, 1])), Poly([0, 0, -1], 2))
        self.check(companion(Poly([0, -27, 0, 0, 8], 8).monic()), Poly([0, 0, 2], 3))

    def test_with_another_constant_coefficient(self):
        self.check(companion(Poly([1, -1, 0, 0, 1])), None)
        self.check(companion(Poly([0, -1, 2, 0, 1])), None)
        self.check(companion(Poly([2, -1, 2, 0, 1])), Poly([1, 0, 1]))

    def test_size_out_of_range(self):
        for size in (1, 2, 3, 5, 6, 30):
            for a in (Matrix.identity(size), lower_shift(size)):
                self.assert_refused(SizeOutOfRange, {"size": size}, only_quadratic, a)

    def test_not_cyclic(self):
        for a in (Matrix.identity(4), Matrix.zero(4, 4), diagonal(1, 2, 1, 3), diagonal(0, 0, 5, 5)):
            self.assert_refused(NotCyclic, {"found": slow_degree(a)}, only_quadratic, a)
