"""Cyclic matrices: those that have a start whose spaces grow to the full size."""

from lastrows.elimination import solve
from lastrows.errors import NotCyclic
from lastrows.matrices import Matrix
from lastrows.polys import Poly
from lastrows.spaces import annihilator, powers
from lastrows.vectors import Vector


def plain_start(size, t):
    """Returns the vector with the entries 1, t, t * t, .."""
    tops = []
    power = 1
    for _ in range(size):
        tops.append(power)
        power = power * t
    return Vector(tops)


def minimal_polynomial(a):
    """Returns the minimal polynomial and the least t whose plain start has it as its annihilator."""
    t = 0
    found = annihilator(a, plain_start(a.height, t))
    # An annihilator divides the minimal polynomial, so it is the minimal polynomial as soon as it sends `a` to zero.
    while not found(a).is_zero:
        t += 1
        found = annihilator(a, plain_start(a.height, t))
    return found, t


def base_start(a):
    """Returns the plain start of the minimal polynomial, which is full."""
    found, t = minimal_polynomial(a)
    if found.degree < a.height:
        raise NotCyclic(found.degree)
    return plain_start(a.height, t)


def check_cyclic(a):
    """Raises NotCyclic if the matrix is not cyclic."""
    base_start(a)


def as_polynomial(a, y):
    """Returns the polynomial p of a degree below the size for which `p(a) == y`, or None."""
    start = base_start(a)
    shares = solve(Matrix.columns(powers(a, start, a.height)), y * start).answer
    found = Poly(shares.tops, shares.bottom)
    return found if found(a) == y else None
