"""The question for a measure in which the adjoint of a matrix is a given polynomial of it."""

from lastrows.answers import Granted, NoReturn, TraceBar, TraceDiffers, power_traces, trace_table
from lastrows.cyclic import base_start
from lastrows.errors import DegreeTooLarge, NotPositive
from lastrows.inverses import inverse
from lastrows.matrices import Matrix
from lastrows.measures import Measure
from lastrows.polys import Poly
from lastrows.ratios import Ratio
from lastrows.spaces import powers


def measure_with_adjoint(a, poly):
    """Returns the answer to the question whether there is a measure in which the adjoint of `a` is `poly(a)`."""
    start = base_start(a)
    if poly.degree >= a.height:
        raise DegreeTooLarge(poly.degree)
    y = poly(a)
    for power, (one, other) in enumerate(zip(power_traces(a), power_traces(y))):
        if one != other:
            return TraceDiffers(power)
    if poly(y) != a:
        return NoReturn()
    table = trace_table(a, poly)
    try:
        Measure(table)
    except NotPositive as e:
        # The witness z makes z * table * z the trace of f(a) * f(poly(a)) for the polynomial f with its entries.
        return TraceBar(Poly(e.witness.tops, e.witness.bottom))
    return Granted(_measure_of_powers(a, start, table))


def _measure_of_powers(a, start, table):
    # The measure in which the table holds the dots of the powers of the start.
    shares = inverse(Matrix.columns(powers(a, start, a.height)))
    return Measure(shares.transpose * table * shares)


def skew_poly(a):
    """Returns the polynomial t - x, where t is twice the trace of the matrix divided by its size."""
    return Poly.of([a.trace() * Ratio(2, a.height), Ratio(-1)])
