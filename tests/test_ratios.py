"""Points 4 and 5: ratios and their written form."""

from fractions import Fraction
from math import gcd

from lastrows.errors import BadNumber, ZeroBottom
from lastrows.ratios import Ratio
from tests.support import Case, fraction, source

NINES = "9" * 400
ONES = "1" + "0" * 399
LARGE = 7 ** 1200
EVEN = 10 ** 1000 - 2


class RatioTest(Case):
    def assert_parts(self, ratio, top, bottom):
        self.assertEqual((ratio.top, ratio.bottom), (top, bottom))

    def test_lowest_terms_and_positive_bottom(self):
        self.assert_parts(Ratio(6, -4), -3, 2)
        self.assert_parts(Ratio(-6, -4), 3, 2)
        self.assert_parts(Ratio(-6, 4), -3, 2)
        self.assert_parts(Ratio(12, 4), 3, 1)
        self.assert_parts(Ratio(-5, -1), 5, 1)
        self.assert_parts(Ratio(7, 3), 7, 3)

    def test_zero_is_zero_over_one(self):
        for bottom in (1, -1, 5, -5, 10 ** 900):
            self.assert_parts(Ratio(0, bottom), 0, 1)

    def test_bottom_left_out(self):
        self.assert_parts(Ratio(4), 4, 1)
        self.assert_parts(Ratio(-4), -4, 1)
        self.assert_parts(Ratio(top=4, bottom=6), 2, 3)

    def test_zero_bottom(self):
        self.assert_refused(ZeroBottom, {}, Ratio, 1, 0)
        self.assert_refused(ZeroBottom, {}, Ratio, 0, 0)

    def test_large_numbers(self):
        self.assert_parts(Ratio(LARGE * 21, LARGE * -14), -3, 2)
        self.assert_parts(Ratio(EVEN, 4), EVEN // 2, 2)
        found = Ratio(LARGE, EVEN) + Ratio(EVEN, LARGE)
        self.assertEqual(fraction(found), Fraction(LARGE, EVEN) + Fraction(EVEN, LARGE))
        self.assertEqual(gcd(found.top, found.bottom), 1)
        self.assert_same(Ratio(found.top, found.bottom), found)

    def test_arithmetic_against_fractions(self):
        numbers = source(4)
        for _ in range(300):
            most = numbers.choice([3, 20, 10 ** 20, 10 ** 1000])
            a, b = [Ratio(numbers.randint(-most, most), numbers.choice([-1, 1]) * numbers.randint(1, most))
                    for _ in range(2)]
            p, q = fraction(a), fraction(b)
            self.assertEqual(fraction(a + b), p + q)
            self.assertEqual(fraction(a - b), p - q)
            self.assertEqual(fraction(a * b), p * q)
            self.assertEqual(fraction(-a), -p)
            self.assertEqual(fraction(abs(a)), abs(p))
            self.assertIs(a.below(b), p < q)
            self.assertIs(a == b, p == q)
            self.assertIs(a != b, p != q)
            self.assertEqual(a.sign, (p > 0) - (p < 0))
            self.assertIs(a.is_zero, p == 0)
            if q != 0:
                self.assertEqual(fraction(a.over(b)), p / q)
            for found in (a + b, a - b, a * b, -a, abs(a)):
                self.assertEqual(gcd(found.top, found.bottom), 1)
                self.assertGreater(found.bottom, 0)
            self.assertEqual((fraction(a), fraction(b)), (p, q))

    def test_quotient_by_zero(self):
        self.assert_refused(ZeroBottom, {}, Ratio(3, 4).over, Ratio(0))
        self.assert_refused(ZeroBottom, {}, Ratio(0).over, Ratio(0))
        self.assert_parts(Ratio(0).over(Ratio(-7, 2)), 0, 1)
        self.assert_parts(Ratio(1, 2).over(Ratio(-3, 4)), -2, 3)

    def test_equality_with_other_things(self):
        self.assert_same(Ratio(2, 4), Ratio(1, 2))
        for other in (1, 1.0, "1", None, Fraction(1), (1, 1), [1], object()):
            self.assert_other(Ratio(1), other)
        self.assert_other(Ratio(1, 2), Ratio(1, 3))
        self.assert_other(Ratio(1, 2), Ratio(3, 2))

    def test_below_is_strict(self):
        self.assertIs(Ratio(1, 3).below(Ratio(1, 2)), True)
        self.assertIs(Ratio(1, 2).below(Ratio(2, 4)), False)
        self.assertIs(Ratio(-1, 2).below(Ratio(-1, 3)), True)
        self.assertIs(Ratio(1, 2).below(Ratio(-1, 3)), False)

    def test_sign_and_is_zero(self):
        self.assertEqual([Ratio(k, 5).sign for k in (-7, 0, 7)], [-1, 0, 1])
        self.assertEqual([Ratio(k, 5).is_zero for k in (-7, 0, 7)], [False, True, False])


class WrittenRatioTest(Case):
    def test_there_and_back(self):
        for ratio, text in [
            (Ratio(0), "0"), (Ratio(0, 9), "0"), (Ratio(5), "5"), (Ratio(-5), "-5"), (Ratio(6, -4), "-3/2"),
            (Ratio(1, 10), "1/10"), (Ratio(-10, 100), "-1/10"), (Ratio(100), "100"), (Ratio(10 ** 30), "1" + "0" * 30),
        ]:
            self.assert_form(ratio, text)

    def test_bad_texts(self):
        for text in [
            "", "long", "2/4", "3/1", "1/0", "-0", "007", "+1", " 1", "1 ", "1 /2", "1/ 2", "-", "/", "-/", "1/", "/2",
            "-/2", "--1", "1/-2", "-1/-2", "1/2/3", "1//2", "0/1", "0/5", "-0/5", "0/0", "00", "-007", "1/02", "01/2",
            "1.5", "1e5", "1_000", "0x1", "a", "1a", "-1/1", "-2/4", "1-", "4/2", "1;", "|", "~",
        ]:
            self.assert_refused(BadNumber, {"text": text}, Ratio.read, text)

    def test_other_digits_are_no_digits(self):
        for text in ["\u0663", "\u00b2", "1/\u0663", "5\n", "\t5"]:
            self.assert_refused(BadNumber, {"text": text}, Ratio.read, text)

    def test_four_hundred_digits(self):
        for top in (NINES, ONES):
            for sign in ("", "-"):
                self.assert_form(Ratio(int(sign + top)), sign + top)
                self.assert_form(Ratio(int(sign + "7"), int(top)), f"{sign}7/{top}")
        self.assert_form(Ratio(int(NINES), int(ONES)), f"{NINES}/{ONES}")

    def test_four_hundred_and_one_digits(self):
        over = "1" + "0" * 400
        for sign in ("", "-"):
            for text in (sign + over, f"{sign}7/{over}", f"{sign}{over}/7", f"{sign}{over}/{NINES}", sign + NINES + "9"):
                self.assert_refused(BadNumber, {"text": text}, Ratio.read, text)
            self.assertEqual(str(Ratio(int(sign + over))), "long")
            self.assertEqual(str(Ratio(int(sign + "7"), int(over))), "long")
            self.assertEqual(str(Ratio(int(sign + over), 7)), "long")

    def test_many_thousand_digits(self):
        for text in ("7" * 19999, "-" + "7" * 19999, "1/" + "3" * 19000, "3" * 19000 + "/2", "0" * 20000):
            self.assert_refused(BadNumber, {"text": text}, Ratio.read, text)
        huge = Ratio(3 ** 100000, 2 ** 100000)
        for ratio in (huge, -huge, Ratio(1).over(huge), huge * Ratio(2 ** 100000), Ratio(-1).over(huge)):
            self.assertEqual(str(ratio), "long")
        self.assertEqual(str(huge - huge + Ratio(1, 3)), "1/3")
        self.assert_same(Ratio(huge.top, huge.bottom), huge)

    def test_reading_is_the_contrary_of_writing(self):
        numbers = source(5)
        for _ in range(200):
            ratio = Ratio(numbers.randint(-10 ** 30, 10 ** 30), numbers.randint(1, 10 ** numbers.randint(0, 30)))
            number = fraction(ratio)
            self.assert_form(ratio, str(number))
