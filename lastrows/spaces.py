"""The spaces that grow by multiplying a start with a matrix."""

from lastrows.elimination import rank, solve
from lastrows.matrices import Matrix
from lastrows.polys import Poly


def powers(a, v, count):
    """Returns the tuple of the vectors v, a * v, a * a * v, .. of the given number."""
    found = []
    step = v
    for _ in range(count):
        found.append(step)
        step = a * step
    return tuple(found)


def annihilator(a, v):
    """Returns the monic polynomial f of the least degree for which `f(a) * v` is zero."""
    order = grade(a, v)
    power = Poly([0] * order + [1])
    if order == 0:
        return power
    steps = powers(a, v, order + 1)
    shares = solve(Matrix.columns(steps[:order]), steps[order]).answer
    return power - Poly(shares.tops, shares.bottom)


def grade(a, v):
    """Returns the order from which on the spaces of v do not grow."""
    # The space of the order `size` has grown as far as any.
    return rank(Matrix.columns(powers(a, v, len(v))))
