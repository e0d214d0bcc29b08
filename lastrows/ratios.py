"""Exact fractions, and what vectors, matrices and polynomials share with them."""

from math import gcd, lcm

from lastrows.errors import BadNumber, ZeroBottom

_MOST_DIGITS = 400


class Ratio:
    """An exact fraction in lowest terms, with a positive bottom."""

    def __init__(self, top, bottom=1):
        if bottom == 0:
            raise ZeroBottom()
        divisor = common_divisor([top], bottom)
        self.top = top // divisor
        self.bottom = bottom // divisor

    def __add__(self, other):
        if not isinstance(other, Ratio):
            return NotImplemented
        return Ratio(self.top * other.bottom + other.top * self.bottom, self.bottom * other.bottom)

    def __sub__(self, other):
        if not isinstance(other, Ratio):
            return NotImplemented
        return self + -other

    def __mul__(self, other):
        if not isinstance(other, Ratio):
            return NotImplemented
        return Ratio(self.top * other.top, self.bottom * other.bottom)

    def __neg__(self):
        return Ratio(-self.top, self.bottom)

    def __abs__(self):
        return Ratio(abs(self.top), self.bottom)

    def __eq__(self, other):
        return isinstance(other, Ratio) and self.top == other.top and self.bottom == other.bottom

    def __str__(self):
        if _is_long(self.top) or _is_long(self.bottom):
            return "long"
        if self.bottom == 1:
            return str(self.top)
        return f"{self.top}/{self.bottom}"

    def over(self, other):
        """Returns the exact quotient."""
        return Ratio(self.top * other.bottom, self.bottom * other.top)

    def below(self, other):
        """Tells whether this ratio is less than the other one."""
        return self.top * other.bottom < other.top * self.bottom

    @property
    def sign(self):
        """-1, 0 or 1."""
        if self.top == 0:
            return 0
        return 1 if self.top > 0 else -1

    @property
    def is_zero(self):
        """Whether this is the ratio zero."""
        return self.top == 0

    @staticmethod
    def read(text):
        """Returns the ratio whose written form is the text."""
        top, slash, bottom = text.removeprefix("-").partition("/")
        if slash == "":
            bottom = "1"
        if not _is_number(top) or not _is_number(bottom) or int(bottom) == 0:
            raise BadNumber(text)
        found = Ratio(-int(top) if text.startswith("-") else int(top), int(bottom))
        # Signs, leading zeros and common divisors that do not belong there all show in this comparison.
        if str(found) != text:
            raise BadNumber(text)
        return found


def _is_long(number):
    # The digits are not counted in a text, since Python refuses to write integers of some thousand digits.
    return abs(number) >= (10 ** 50) ** 8


def _is_number(word):
    # The length comes first, since Python refuses to read integers of some thousand digits.
    return len(word) <= _MOST_DIGITS and word.isascii() and word.isdigit()


def common_divisor(tops, bottom):
    """Returns the greatest common divisor of the tops and the bottom, with the sign of the bottom."""
    found = abs(bottom)
    for top in tops:
        if found == 1:
            break
        found = gcd(found, top)
    return found if bottom > 0 else -found


def common_bottom(bottoms):
    """Returns the least common multiple of bottoms, 1 if there are none."""
    found = 1
    for bottom in bottoms:
        found = lcm(found, bottom)
    return found


def over_one_bottom(ratios):
    """Returns the tops of ratios over their least common bottom, and this bottom."""
    bottom = common_bottom([ratio.bottom for ratio in ratios])
    return [ratio.top * (bottom // ratio.bottom) for ratio in ratios], bottom


def is_factor(thing):
    """Tells whether vectors, matrices, polynomials and measures can be multiplied by this as by a number."""
    return isinstance(thing, (int, Ratio))


def as_ratio(factor):
    """Returns a ratio or an integer as a ratio."""
    return Ratio(factor) if isinstance(factor, int) else factor
