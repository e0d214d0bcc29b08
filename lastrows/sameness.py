"""Which matrices have the same spaces, and which measures the same walks, for all starts."""

from lastrows.cyclic import base_start
from lastrows.errors import SizeOutOfRange
from lastrows.inverses import inverse
from lastrows.reaches import reach


class SameSpaces:
    """The second matrix is the factor times the first one plus the offset times the identity."""

    def __init__(self, factor, offset):
        self.factor = factor
        self.offset = offset


class OtherSpaces:
    """The spaces of order 2 of this start differ for the two matrices."""

    def __init__(self, start):
        self.start = start


def same_spaces(a, c):
    """Tells whether the spaces of every start are the same for the cyclic matrix `a` and for `c`, and why."""
    if a.height < 3:
        raise SizeOutOfRange(a.height)
    found = reach(a, c)
    if found.least == 0:
        # `c` is a multiple of the identity, so its spaces stop at order 1, and those of a full start do not.
        return OtherSpaces(base_start(a))
    if found.least == 1:
        return SameSpaces(found.poly[1], found.poly[0])
    # `c * start` is not in the space of the order `least`, and so not in that of order 2.
    return OtherSpaces(found.start)


def same_walks(a, first, second):
    """Returns the ratio of the second measure to the first one or, if there is none, a start whose walks differ."""
    # In rows that both measures make orthogonal, this matrix multiplies each row, the start too, by a number. So a
    # start that it does not only multiply by a number has different walks.
    found = reach(a, inverse(first.matrix) * second.matrix)
    return found.poly[0] if found.least == 0 else found.start
