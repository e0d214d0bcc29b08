"""The reach of a matrix: in which of the growing spaces of another matrix it keeps every full start."""

from lastrows.cyclic import as_polynomial, base_start
from lastrows.elimination import rank, solve
from lastrows.matrices import Matrix
from lastrows.spaces import powers


class Reach:
    """The reach `least` with its certificate: a polynomial from above and a start from below."""

    def __init__(self, least, poly, start):
        self.least = least
        self.poly = poly
        self.start = start

    def holds(self, a, y):
        """Tells whether this is the reach of y for the cyclic matrix `a`, as a short calculation shows."""
        if self.least < 0 or not bounds_reach(a, y, self.least, self.poly):
            return False
        if self.least == 0:
            return self.start is None
        return self.start is not None and leaves_space(a, y, self.least, self.start)


def reach(a, y):
    """Returns the reach of y for the cyclic matrix `a`."""
    poly = as_polynomial(a, y)
    if poly is None:
        return Reach(a.height - 1, None, _leaving_start(a, y))
    if poly.degree < 1:
        return Reach(0, poly, None)
    return Reach(poly.degree, poly, base_start(a))


def bounds_reach(a, y, least, poly):
    """Tells whether the polynomial, or None for a y that does not commute with `a`, shows the reach from above."""
    if poly is None:
        return least == a.height - 1 and a * y != y * a
    return least < a.height and least == max(poly.degree, 0) and poly(a) == y


def leaves_space(a, y, order, start):
    """Tells whether the start is full and `y * start` does not lie in its space of the order."""
    found = solve(Matrix.columns(powers(a, start, a.height)), y * start)
    return len(found.kernel) == 0 and any(found.answer.tops[order:])


def _leaving_start(a, y):
    # For a y that does not commute with `a`. Point 25 of the document shows that one of these starts is found: some
    # power of one of the turns, times the base start, or a turn of such a vector.
    order = a.height - 1
    start = base_start(a)
    if leaves_space(a, y, order, start):
        return start
    turns = _turns(a)
    while True:
        for turn in turns:
            turned = turn * start
            if leaves_space(a, y, order, turned):
                return turned
        start = turns[0] * start


def _turns(a):
    size = a.height
    moved = [a - Matrix.identity(size) * j for j in range(2 * size)]
    return [turn for turn in moved if rank(turn) == size]
