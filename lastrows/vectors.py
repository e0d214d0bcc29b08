"""Vectors of exact fractions."""

from lastrows.errors import Empty, SizeMismatch, ZeroBottom
from lastrows.ratios import Ratio, as_ratio, common_divisor, is_factor, over_one_bottom


class Vector:
    """Integers over one common bottom, in lowest terms."""

    def __init__(self, tops, bottom=1):
        if len(tops) == 0:
            raise Empty()
        if bottom == 0:
            raise ZeroBottom()
        divisor = common_divisor(tops, bottom)
        self.tops = tuple([top // divisor for top in tops])
        self.bottom = bottom // divisor

    def __len__(self):
        return len(self.tops)

    def __getitem__(self, at):
        return Ratio(self.tops[at], self.bottom)

    def __iter__(self):
        raise TypeError("a vector is read by its indexes")

    def __add__(self, other):
        if not isinstance(other, Vector):
            return NotImplemented
        _check_lengths(self, other)
        tops = [left * other.bottom + right * self.bottom for left, right in zip(self.tops, other.tops)]
        return Vector(tops, self.bottom * other.bottom)

    def __sub__(self, other):
        if not isinstance(other, Vector):
            return NotImplemented
        return self + -other

    def __neg__(self):
        return Vector([-top for top in self.tops], self.bottom)

    def __mul__(self, other):
        if not is_factor(other):
            return NotImplemented
        factor = as_ratio(other)
        return Vector([top * factor.top for top in self.tops], self.bottom * factor.bottom)

    def __rmul__(self, other):
        if not is_factor(other):
            return NotImplemented
        return self * other

    def __eq__(self, other):
        return isinstance(other, Vector) and self.tops == other.tops and self.bottom == other.bottom

    def __str__(self):
        return " ".join([str(Ratio(top, self.bottom)) for top in self.tops])

    def dot(self, other):
        """Returns the sum of the products of the entries."""
        _check_lengths(self, other)
        return Ratio(sum_of_products(self.tops, other.tops), self.bottom * other.bottom)

    @property
    def is_zero(self):
        """Whether all entries are zero."""
        return not any(self.tops)

    @staticmethod
    def unit(size, place):
        """Returns the vector with the entry 1 at the place and zeros elsewhere."""
        return Vector([1 if k == place else 0 for k in range(size)])

    @staticmethod
    def zero(size):
        """Returns the vector of zeros."""
        return Vector([0] * size)

    @staticmethod
    def of(ratios):
        """Returns the vector with the given ratios as entries."""
        tops, bottom = over_one_bottom(ratios)
        return Vector(tops, bottom)

    @staticmethod
    def read(text):
        """Returns the vector whose written form is the text."""
        return Vector.of([Ratio.read(word) for word in text.split(" ")])


def sum_of_products(left, right):
    """Returns the sum of the products of integers at equal places."""
    return sum([one * two for one, two in zip(left, right)])


def without(thing, shares, others):
    """Returns a vector or a polynomial minus each of the others times its share."""
    rest = thing
    for share, other in zip(shares, others):
        rest = rest - other * share
    return rest


def _check_lengths(left, right):
    if len(left) != len(right):
        raise SizeMismatch(len(left), len(right))
