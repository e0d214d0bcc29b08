"""The least memory that a matrix of a size up to four has in any measure."""

from lastrows.adjoints import measure_with_adjoint, skew_poly
from lastrows.cyclic import check_cyclic, minimal_polynomial
from lastrows.errors import SizeOutOfRange
from lastrows.matrices import Matrix
from lastrows.measures import Measure
from lastrows.polys import Poly
from lastrows.ratios import Ratio


class LeastMemory:
    """The least memory, a measure that has it, and the answers that show why no measure has a lesser one."""

    def __init__(self, least, measure, straight, skew, quadratic):
        self.least = least
        self.measure = measure
        self.straight = straight
        self.skew = skew
        self.quadratic = quadratic


def least_memory(a):
    """Returns the least memory of a cyclic matrix of a size from 2 to 4 over all measures."""
    size = a.height
    if size < 2 or size > 4:
        raise SizeOutOfRange(size)
    check_cyclic(a)
    if size == 2:
        return LeastMemory(1, Measure.plain(size), None, None, None)
    straight = measure_with_adjoint(a, Poly.x())
    if straight.granted:
        return LeastMemory(1, straight.measure, straight, None, None)
    skew = measure_with_adjoint(a, skew_poly(a))
    if skew.granted:
        return LeastMemory(1, skew.measure, straight, skew, None)
    quadratic = _quadratic_answer(a)
    if quadratic is not None and quadratic.granted:
        return LeastMemory(2, quadratic.measure, straight, skew, quadratic)
    return LeastMemory(size - 1, Measure.plain(size), straight, skew, quadratic)


def _quadratic_answer(a):
    # Below size 4 the memory is at most 2 anyway, so nothing is asked there.
    poly = only_quadratic(a) if a.height == 4 else None
    return None if poly is None else measure_with_adjoint(a, poly)


def only_quadratic(a):
    """Returns the polynomial p of degree 2 for which `p(p(a)) == a`, for a cyclic matrix of size 4, or None."""
    if a.height != 4:
        raise SizeOutOfRange(a.height)
    check_cyclic(a)
    middle = a.trace() * Ratio(1, 4)
    found, _ = minimal_polynomial(a - Matrix.identity(4) * middle)
    if found[1].is_zero:
        return None
    g = _cube_root(Ratio(-1).over(found[1]))
    h = found[2] * Ratio(1, 2)
    if g is None or found[0] != h * h + h.over(g * g):
        return None
    centered = Poly.of([-middle, Ratio(1)])
    return (centered * centered + Poly.constant(h)) * g + Poly.constant(middle)


def _cube_root(ratio):
    # In lowest terms a ratio is a cube just where its top and its bottom are.
    top = _whole_cube_root(abs(ratio.top))
    bottom = _whole_cube_root(ratio.bottom)
    if top is None or bottom is None:
        return None
    return Ratio(top * ratio.sign, bottom)


def _whole_cube_root(number):
    low = 0
    high = 1 << (number.bit_length() // 3 + 1)
    while low < high:
        half = (low + high) // 2
        if half * half * half < number:
            low = half + 1
        else:
            high = half
    return low if low * low * low == number else None
