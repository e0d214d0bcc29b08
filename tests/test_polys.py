"""Points 13, 14 and 15: polynomials, what they have in common, and their written form."""

from fractions import Fraction
from math import gcd

from lastrows.errors import BadNumber, BadText, NotSquare, ZeroBottom, ZeroPoly
from lastrows.matrices import Matrix
from lastrows.polys import Poly, common
from lastrows.ratios import Ratio
from lastrows.vectors import Vector
from tests.support import Case, fraction, ratio, some_matrix, source

ZERO = Poly([])


def some_poly(numbers, most_degree=5, most=9):
    tops = [numbers.randint(-most, most) for _ in range(numbers.randint(0, most_degree + 1))]
    return Poly(tops, numbers.randint(1, 4))


def coefficients(p):
    return [fraction(p[k]) for k in range(len(p))]


def trimmed(numbers):
    while numbers and numbers[-1] == 0:
        numbers = numbers[:-1]
    return numbers


def product(left, right):
    found = [Fraction(0)] * (len(left) + len(right))
    for i, one in enumerate(left):
        for j, two in enumerate(right):
            found[i + j] += one * two
    return trimmed(found)


def summed(left, right, sign=1):
    many = max(len(left), len(right))
    left, right = [numbers + [Fraction(0)] * (many - len(numbers)) for numbers in (left, right)]
    return trimmed([one + sign * two for one, two in zip(left, right)])


class PolyTest(Case):
    def assert_parts(self, p, tops, bottom):
        self.assertEqual((p.tops, p.bottom), (tops, bottom))

    def test_lowest_terms_and_zeros_at_the_end(self):
        self.assert_parts(Poly([2, 4], 6), (1, 2), 3)
        self.assert_parts(Poly([2, 4], -6), (-1, -2), 3)
        self.assert_parts(Poly([1, 0, 2, 0, 0]), (1, 0, 2), 1)
        self.assert_parts(Poly((0, 0, 4), 2), (0, 0, 2), 1)
        self.assert_parts(Poly([4, 6], 9), (4, 6), 9)

    def test_the_zero_polynomial(self):
        for p in (ZERO, Poly([], 5), Poly((), -5), Poly([0]), Poly([0, 0, 0], -7), Poly.of([]), Poly.of([Ratio(0)]),
                  Poly.constant(Ratio(0)), Poly([1]) - Poly([1]), Poly([1, 2]) * 0, Ratio(0) * Poly([1, 2])):
            self.assert_parts(p, (), 1)
            self.assertEqual((len(p), p.degree, p.is_zero, str(p)), (0, -1, True, "0"))
            self.assertTrue(p[0].is_zero)
            self.assertTrue(p[50].is_zero)
            self.assert_same(p, ZERO)

    def test_lists_are_copied(self):
        tops = [1, 2]
        p = Poly(tops)
        tops[1] = 5
        tops.append(3)
        self.assert_parts(p, (1, 2), 1)
        tops = [1, 0]
        Poly(tops)
        self.assertEqual(tops, [1, 0])

    def test_zero_bottom(self):
        for tops in ([], [0], [1, 2]):
            self.assert_refused(ZeroBottom, {}, Poly, tops, 0)

    def test_length_degree_and_coefficients(self):
        p = Poly([2, 0, -3], 6)
        self.assertEqual((len(p), p.degree, p.is_zero), (3, 2, False))
        self.assertEqual([str(p[k]) for k in (0, 1, 2, 3, 4, 1000, 10 ** 30)], ["1/3", "0", "-1/2", "0", "0", "0", "0"])
        self.assertIs(type(p[0]), Ratio)
        self.assertIs(type(p[3]), Ratio)
        self.assertEqual((len(Poly([5])), Poly([5]).degree), (1, 0))

    def test_sums_and_products_against_fractions(self):
        numbers = source(130)
        for _ in range(200):
            most = numbers.choice([2, 9, 10 ** 20])
            p, q = some_poly(numbers, most=most), some_poly(numbers, most=most)
            r, k = Ratio(numbers.randint(-9, 9), numbers.randint(1, 9)), numbers.randint(-9, 9)
            x, y = coefficients(p), coefficients(q)
            self.assertEqual(coefficients(p + q), summed(x, y))
            self.assertEqual(coefficients(p - q), summed(x, y, -1))
            self.assertEqual(coefficients(-p), [-one for one in x])
            self.assertEqual(coefficients(p * q), product(x, y))
            for found, factor in [(p * r, fraction(r)), (r * p, fraction(r)), (p * k, k), (k * p, k)]:
                self.assertEqual(coefficients(found), trimmed([one * factor for one in x]))
            for found in (p + q, p - q, -p, p * q, p * r, k * p):
                self.assertEqual(gcd(found.bottom, *found.tops), 1)
                self.assertGreater(found.bottom, 0)
                self.assert_made_anew(found)
            self.assertEqual((coefficients(p), coefficients(q)), (x, y))

    def test_powers(self):
        for p in (Poly([1, -2, 3], 2), Poly([5], 3), Poly.x(), ZERO):
            power = Poly([1])
            for k in range(21):
                self.assert_same(p ** k, power)
                power = power * p
        self.assertEqual(str((Poly([1, 1]) ** 4)), "1 4 6 4 1")

    def test_equality(self):
        self.assert_same(Poly([1, 2, 0], 2), Poly([2, 4], 4))
        self.assert_other(Poly([1, 2]), Poly([1, 2], 3))
        self.assert_other(Poly([1, 2]), Poly([1]))
        for other in (1, "1", None, [1], (1,), Ratio(1), Vector([1]), Matrix([[1]])):
            self.assert_other(Poly([1]), other)
            self.assert_other(other, Poly([1]))
        self.assert_other(ZERO, 0)
        self.assert_other(ZERO, Ratio(0))

    def test_static_methods(self):
        self.assert_parts(Poly.x(), (0, 1), 1)
        self.assert_parts(Poly.constant(Ratio(-2, 3)), (-2,), 3)
        self.assert_parts(Poly.of([Ratio(1, 6), Ratio(0), Ratio(-1, 4), Ratio(0)]), (2, 0, -3), 12)
        self.assert_parts(Poly.of(()), (), 1)


class DivisionTest(Case):
    def check(self, p, q):
        quotient, rest = p // q, p.remainder(q)
        self.assert_same(q * quotient + rest, p)
        self.assertLess(rest.degree, q.degree)
        self.assert_made_anew(quotient)
        self.assert_made_anew(rest)

    def test_small_ones(self):
        self.assertEqual(str(Poly([-1, 0, 1]) // Poly([1, 1])), "-1 1")
        self.assertEqual(str(Poly([-1, 0, 1]).remainder(Poly([1, 1]))), "0")
        self.assertEqual(str(Poly([1, 0, 0, 1]) // Poly([1, 2], 3)), "3/8 -3/4 3/2")
        self.assertEqual(str(Poly([1, 0, 0, 1]).remainder(Poly([1, 2], 3))), "7/8")
        self.assertEqual(str(Poly([1, 2]) // Poly([0, 0, 1])), "0")
        self.assertEqual(str(Poly([1, 2]).remainder(Poly([0, 0, 1]))), "1 2")
        self.assertEqual(str(Poly([1, 2]) // Poly([-4])), "-1/4 -1/2")

    def test_many(self):
        numbers = source(131)
        for _ in range(300):
            most = numbers.choice([1, 9, 10 ** 20])
            p, q = some_poly(numbers, 8, most), some_poly(numbers, 5, most)
            if not q.is_zero:
                self.check(p, q)
                self.check(p * q, q)
                self.assertTrue((p * q).remainder(q).is_zero)
        self.check(ZERO, Poly([1, 2]))

    def test_large_degrees(self):
        numbers = source(132)
        p = Poly([numbers.randint(-10 ** 20, 10 ** 20) for _ in range(20)] + [10 ** 20 - 1], 10 ** 19)
        q = Poly([numbers.randint(-10 ** 20, 10 ** 20) for _ in range(10)] + [10 ** 19 + 3], 10 ** 18 + 1)
        self.check(p, q)
        self.check(p ** 20, q)
        self.assert_same(p ** 20 // p, p ** 19)

    def test_by_zero(self):
        for p in (ZERO, Poly([1]), Poly([1, 2])):
            self.assert_refused(ZeroPoly, {}, lambda: p // ZERO)
            self.assert_refused(ZeroPoly, {}, p.remainder, ZERO)


class ValueTest(Case):
    def test_at_ratios(self):
        p = Poly([1, -2, 4], 3)
        for number in (0, 1, -1, Fraction(1, 2), Fraction(-5, 7), 10 ** 19):
            found = p(ratio(number))
            self.assertIs(type(found), Ratio)
            self.assertEqual(fraction(found), (1 - 2 * Fraction(number) + 4 * Fraction(number) ** 2) / 3)
        self.assert_same(ZERO(Ratio(5)), Ratio(0))
        self.assert_same(Poly([7], 2)(Ratio(5)), Ratio(7, 2))

    def test_at_matrices(self):
        numbers = source(133)
        for size in range(1, 6):
            a, p = some_matrix(numbers, size, size), some_poly(numbers, 6)
            found = Matrix.zero(size, size)
            for k in range(len(p)):
                found = found + a ** k * p[k]
            self.assert_same(p(a), found)
            self.assert_same(ZERO(a), Matrix.zero(size, size))
            self.assert_same(Poly([7], 2)(a), Matrix.identity(size) * Ratio(7, 2))
            self.assert_same(Poly.x()(a), a)

    def test_at_matrices_that_are_not_square(self):
        for p in (ZERO, Poly([3]), Poly([1, 2])):
            self.assert_refused(NotSquare, {"height": 2, "width": 3}, p, Matrix.zero(2, 3))
            self.assert_refused(NotSquare, {"height": 3, "width": 1}, p, Matrix.zero(3, 1))

    def test_at_a_large_matrix(self):
        numbers = source(134)
        a = some_matrix(numbers, 30, 30, 10 ** 20)
        p = Poly([numbers.randint(-10 ** 20, 10 ** 20) for _ in range(21)], 10 ** 20 - 1)
        v = Vector([1] * 30)
        image, step = Vector.zero(30), v
        for k in range(21):
            image, step = image + step * p[k], a * step
        self.assert_same(p(a) * v, image)

    def test_compose(self):
        numbers = source(135)
        for _ in range(60):
            p, q = some_poly(numbers, 4), some_poly(numbers, 3)
            found = ZERO
            for k in range(len(p)):
                found = found + q ** k * p[k]
            self.assert_same(p.compose(q), found)
            self.assert_same(p.compose(q)(Ratio(2, 3)), p(q(Ratio(2, 3))))
        p = Poly([1, 2, 3])
        self.assert_same(p.compose(Poly.x()), p)
        self.assert_same(Poly.x().compose(p), p)
        self.assert_same(ZERO.compose(p), ZERO)
        self.assert_same(p.compose(ZERO), Poly([1]))
        self.assertEqual(str(p.compose(Poly([1, 1]))), "6 8 3")

    def test_monic(self):
        self.assertEqual(str(Poly([1, -2, 4], 3).monic()), "1/4 -1/2 1")
        self.assertEqual(str(Poly([1, -2]).monic()), "-1/2 1")
        self.assertEqual(str(Poly([-5], 2).monic()), "1")
        self.assert_refused(ZeroPoly, {}, ZERO.monic)


class CommonTest(Case):
    def test_zero(self):
        p = Poly([2, 4], 3)
        self.assertEqual(str(common(p, ZERO)), "1/2 1")
        self.assertEqual(str(common(ZERO, p)), "1/2 1")
        self.assert_same(common(ZERO, ZERO), ZERO)
        self.assertEqual(str(common(ZERO, Poly([-7]))), "1")

    def test_constants_and_divisors(self):
        self.assertEqual(str(common(Poly([6]), Poly([4]))), "1")
        self.assertEqual(str(common(Poly([6]), Poly([1, 1]))), "1")
        self.assertEqual(str(common(Poly([-1, 0, 1]), Poly([2, 2]))), "1 1")
        self.assertEqual(str(common(Poly([2, 2]), Poly([-1, 0, 1]))), "1 1")
        self.assertEqual(str(common(Poly([1, 0, 1]), Poly([-1, 0, 1]))), "1")
        self.assertEqual(str(common(Poly([0, 0, 3]), Poly([0, 5, 5]))), "0 1")

    def test_against_known_factors(self):
        numbers = source(140)
        for _ in range(100):
            most = numbers.choice([2, 9, 10 ** 20])
            p, q, r = [some_poly(numbers, 4, most) for _ in range(3)]
            left, right = p * r, q * r
            found = common(left, right)
            self.assert_same(found, common(right, left))
            if left.is_zero and right.is_zero:
                self.assert_same(found, ZERO)
                continue
            self.assert_same(found[found.degree], Ratio(1))
            self.assertTrue(left.remainder(found).is_zero)
            self.assertTrue(right.remainder(found).is_zero)
            self.assertTrue(found.remainder(r).is_zero)
            self.assertEqual(common(left // found, right // found).degree, 0)

    def test_large_degrees(self):
        numbers = source(141)
        p, q, r = [Poly([numbers.randint(-10 ** 9, 10 ** 9) for _ in range(11)]) for _ in range(3)]
        self.assert_same(common(p * r, q * r), r.monic())


class WrittenPolyTest(Case):
    def test_there_and_back(self):
        self.assert_form(Poly([1, 0, -3], 6), "1/6 0 -1/2")
        self.assert_form(Poly([0, 1]), "0 1")
        self.assert_form(Poly([-5]), "-5")
        self.assert_form(ZERO, "0")
        numbers = source(150)
        for _ in range(50):
            p = some_poly(numbers, 20, 10 ** 20)
            self.assert_form(p, " ".join([str(number) for number in coefficients(p)]) or "0")

    def test_the_leftmost_bad_word_comes_first(self):
        for text, word in [("", ""), (" ", ""), ("1 ", ""), (" 0", ""), ("1  0", ""), ("x 0", "x"), ("1 2/4 y 0", "2/4"),
                           ("0 0 -0", "-0"), ("long", "long"), ("0 " + "7" * 401 + " 0", "7" * 401), ("0 0 ", "")]:
            self.assert_refused(BadNumber, {"text": word}, Poly.read, text)

    def test_a_zero_at_the_end(self):
        for text in ("0 0", "1 0", "1 2/3 0", "0 0 0"):
            self.assert_refused(BadText, {"text": text}, Poly.read, text)

    def test_long_coefficients(self):
        over = 10 ** 400
        self.assertEqual(str(Poly([over, 1, -over, over - 1])), f"long 1 long {over - 1}")
        self.assertEqual(str(Poly([1, over], over)), "long 1")
        self.assertEqual(str(Poly([3 ** 20000, 6], 2)), "long 3")
