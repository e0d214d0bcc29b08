"""Measures with the same adjoint: one is the other times a polynomial of the matrix."""

from lastrows.cyclic import as_polynomial
from lastrows.inverses import inverse
from lastrows.measures import Measure


def adjoint_factor(a, first, second):
    """Returns the polynomial g for which `second.matrix == first.matrix * g(a)`, or None if the adjoints differ."""
    return as_polynomial(a, inverse(first.matrix) * second.matrix)


def measure_times(a, measure, poly):
    """Returns the measure of the matrix `measure.matrix * poly(a)`."""
    return Measure(measure.matrix * poly(a))
