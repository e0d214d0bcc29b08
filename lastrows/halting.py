"""Sides for which the two-sided walk with a given partner halts early."""

from lastrows.cyclic import base_start, plain_start
from lastrows.elimination import rank, solve
from lastrows.errors import ZeroPartner
from lastrows.matrices import Matrix, from_rows
from lastrows.spaces import grade
from lastrows.twosided import TwoSided
from lastrows.vectors import Vector


def halting_side(a, partner):
    """Returns a full start whose two-sided walk with the partner halts below the size, and its halt."""
    start = base_start(a)
    if partner.is_zero:
        raise ZeroPartner()
    if rank(from_rows([partner, a.transpose * partner])) == 2:
        start = _square_start(a, partner)
    return start, TwoSided(a, start, partner).halt


def _square_start(a, partner):
    # For a partner that the transposed matrix does not only multiply; point 48 of the document shows that a start is
    # found.
    base = Matrix.columns(solve(from_rows([partner]), Vector.zero(1)).kernel)
    t = 0
    while grade(a, base * plain_start(base.width, t)) < a.height:
        t += 1
    return base * plain_start(base.width, t)
