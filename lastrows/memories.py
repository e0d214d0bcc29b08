"""The memory of a matrix in a measure: how many rows before the last one the next row needs, whatever the start."""

from lastrows.reaches import bounds_reach, reach
from lastrows.walks import Walk


class Memory:
    """The memory `least` with its certificate: a polynomial from above and a start from below."""

    def __init__(self, least, poly, start):
        self.least = least
        self.poly = poly
        self.start = start

    def holds(self, a, measure):
        """Tells whether this is the memory of the cyclic matrix `a` in the measure, as a short calculation shows."""
        if self.least < 1 or not bounds_reach(a, measure.adjoint(a), self.least, self.poly):
            return False
        return self.start is not None and _needs_first_row(Walk(a, measure, self.start), a.height, self.least)


def memory(a, measure):
    """Returns the memory of the cyclic matrix `a` in the measure."""
    # A start that leaves its space of the order `least` by the adjoint has a share of the row `least` in its first row.
    found = reach(a, measure.adjoint(a))
    return Memory(found.least, found.poly, found.start)


def _needs_first_row(walk, size, place):
    return walk.grade == size and not walk.shares[place][0].is_zero
