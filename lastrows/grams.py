"""Tables of the dots of vectors, and their determinants for the growing spaces of a start."""

from lastrows.errors import Empty
from lastrows.inverses import determinant
from lastrows.matrices import from_rows
from lastrows.ratios import Ratio
from lastrows.spaces import grade, powers
from lastrows.vectors import Vector


def gram(measure, vectors):
    """Returns the matrix of the dots of all pairs of the vectors."""
    if len(vectors) == 0:
        raise Empty()
    return from_rows([Vector.of([measure.dot(u, v) for v in vectors]) for u in vectors])


def gram_determinants(a, measure, start):
    """Returns the determinants of the grams of the first k powers of the start, from k = 0 to its grade."""
    steps = powers(a, start, grade(a, start))
    grams = [gram(measure, steps[:k]) for k in range(1, len(steps) + 1)]
    return tuple([Ratio(1)] + [determinant(table) for table in grams])
