"""Polynomials in x with exact fractions as coefficients."""

from lastrows.errors import BadText, ZeroBottom, ZeroPoly
from lastrows.matrices import Matrix, check_square
from lastrows.ratios import Ratio, as_ratio, common_divisor, is_factor, over_one_bottom


class Poly:
    """Integers over one common bottom, in lowest terms, as coefficients, the constant one first."""

    def __init__(self, tops, bottom=1):
        if bottom == 0:
            raise ZeroBottom()
        count = len(tops)
        while count > 0 and tops[count - 1] == 0:
            count -= 1
        divisor = common_divisor(tops[:count], bottom)
        self.tops = tuple([top // divisor for top in tops[:count]])
        self.bottom = bottom // divisor

    def __len__(self):
        return len(self.tops)

    def __getitem__(self, at):
        if at >= len(self.tops):
            return Ratio(0)
        return Ratio(self.tops[at], self.bottom)

    def __iter__(self):
        raise TypeError("a polynomial is read by its indexes")

    def __add__(self, other):
        if not isinstance(other, Poly):
            return NotImplemented
        many = max(len(self.tops), len(other.tops))
        left = _padded(self.tops, many)
        right = _padded(other.tops, many)
        tops = [one * other.bottom + two * self.bottom for one, two in zip(left, right)]
        return Poly(tops, self.bottom * other.bottom)

    def __sub__(self, other):
        if not isinstance(other, Poly):
            return NotImplemented
        return self + -other

    def __neg__(self):
        return self * -1

    def __mul__(self, other):
        if isinstance(other, Poly):
            return Poly(_product(self.tops, other.tops), self.bottom * other.bottom)
        if not is_factor(other):
            return NotImplemented
        factor = as_ratio(other)
        return Poly([top * factor.top for top in self.tops], self.bottom * factor.bottom)

    def __rmul__(self, other):
        if not is_factor(other):
            return NotImplemented
        return self * other

    def __floordiv__(self, other):
        if not isinstance(other, Poly):
            return NotImplemented
        quotient, _ = _division(self, other)
        return quotient

    def __pow__(self, other):
        power = Poly([1])
        for _ in range(other):
            power = power * self
        return power

    def __eq__(self, other):
        return isinstance(other, Poly) and self.tops == other.tops and self.bottom == other.bottom

    def __call__(self, x):
        if not isinstance(x, Matrix):
            return _value(self, x, Ratio(1))
        check_square(x)
        return _value(self, x, Matrix.identity(x.height))

    def __str__(self):
        if self.is_zero:
            return "0"
        return " ".join([str(Ratio(top, self.bottom)) for top in self.tops])

    def remainder(self, other):
        """Returns the remainder of the division by another polynomial."""
        _, rest = _division(self, other)
        return rest

    def compose(self, other):
        """Returns this polynomial of the other polynomial."""
        return _value(self, other, Poly([1]))

    def monic(self):
        """Returns this polynomial divided by its highest coefficient."""
        if self.is_zero:
            raise ZeroPoly()
        return Poly(self.tops, self.tops[-1])

    @property
    def degree(self):
        """The degree, -1 for the zero polynomial."""
        return len(self.tops) - 1

    @property
    def is_zero(self):
        """Whether this is the zero polynomial."""
        return len(self.tops) == 0

    @staticmethod
    def x():
        """Returns the polynomial x."""
        return Poly([0, 1])

    @staticmethod
    def constant(ratio):
        """Returns a ratio as a polynomial."""
        return Poly([ratio.top], ratio.bottom)

    @staticmethod
    def of(ratios):
        """Returns the polynomial with the given ratios as coefficients, the constant one first."""
        tops, bottom = over_one_bottom(ratios)
        return Poly(tops, bottom)

    @staticmethod
    def read(text):
        """Returns the polynomial whose written form is the text."""
        words = text.split(" ")
        ratios = [Ratio.read(word) for word in words]
        if len(words) > 1 and words[-1] == "0":
            raise BadText(text)
        return Poly.of(ratios)


def common(p, q):
    """Returns the monic polynomial of the highest degree that divides both, zero if both are zero."""
    found = p
    other = q
    while not other.is_zero:
        # Each rest is made monic, since its numbers would grow from step to step otherwise.
        divisor = other.monic()
        found, other = divisor, found.remainder(divisor)
    return found if found.is_zero else found.monic()


def _padded(tops, many):
    return list(tops) + [0] * (many - len(tops))


def _product(left, right):
    tops = [0] * max(0, len(left) + len(right) - 1)
    for i, one in enumerate(left):
        for j, two in enumerate(right):
            tops[i + j] = tops[i + j] + one * two
    return tops


def _value(p, x, one):
    # By Horner's rule. x is a ratio, a square matrix or a polynomial, and `one` is the 1 of its kind.
    value = one * Ratio(0)
    for top in p.tops[::-1]:
        value = value * x + one * Ratio(top)
    return value * Ratio(1, p.bottom)


def _division(p, q):
    if q.is_zero:
        raise ZeroPoly()
    lead = q.tops[-1]
    many = max(0, len(p.tops) - len(q.tops) + 1)
    # With this factor ahead, each division by the highest integer leaves no rest.
    factor = 1
    for _ in range(many):
        factor = factor * lead
    rest = [top * factor for top in p.tops]
    shares = [0] * many
    for shift in range(many - 1, -1, -1):
        share = rest[shift + len(q.tops) - 1] // lead
        shares[shift] = share
        for k, top in enumerate(q.tops):
            rest[shift + k] = rest[shift + k] - share * top
    bottom = factor * p.bottom
    return Poly([share * q.bottom for share in shares], bottom), Poly(rest, bottom)
