"""Elimination: linear systems, what their matrices send to zero, and ranks."""

from lastrows.errors import SizeMismatch
from lastrows.matrices import Matrix
from lastrows.vectors import Vector


class Solution:
    """What is known of a linear system: an answer or, if there is none, a bar; and the kernel."""

    def __init__(self, answer, kernel, bar):
        self.answer = answer
        self.kernel = tuple(kernel)
        self.bar = bar


class Echelon:
    """Reduced rows of integers, as `reduced` makes them.

    The row k, for each k below the number of places, has the integer `scale` at `places[k]`; all other rows have a
    zero there. `turn` is -1 if an odd number of exchanges of rows was made, otherwise 1.
    """

    def __init__(self, rows, places, scale, turn):
        self.rows = tuple([tuple(row) for row in rows])
        self.places = tuple(places)
        self.scale = scale
        self.turn = turn


def reduced(rows, width):
    """Returns the echelon of rows of integers for the columns below the width; further columns follow along."""
    rest = [list(row) for row in rows]
    places = []
    scale = 1
    turn = 1
    for column in range(width):
        done = len(places)
        lead = _first_nonzero(rest, done, column)
        if lead is None:
            continue
        if lead != done:
            rest[done], rest[lead] = rest[lead], rest[done]
            turn = -turn
        rest = _cleared(rest, done, column, scale)
        scale = rest[done][column]
        places.append(column)
    return Echelon(rest, places, scale, turn)


def _first_nonzero(rows, start, column):
    for k in range(start, len(rows)):
        if rows[k][column] != 0:
            return k
    return None


def _cleared(rows, done, column, scale):
    # All numbers are minors of the first rows, so the last scale divides them without a rest (Bareiss). This keeps
    # them short without a single fraction.
    lead = rows[done]
    pivot = lead[column]
    return [
        lead if k == done else [(pivot * one - row[column] * two) // scale for one, two in zip(row, lead)]
        for k, row in enumerate(rows)
    ]


def solve(matrix, vector):
    """Returns the solution of the linear system `matrix * x == vector`."""
    if matrix.height != len(vector):
        raise SizeMismatch(matrix.height, len(vector))
    width = matrix.width
    echelon = reduced([list(row) + [top] for row, top in zip(matrix.tops, vector.tops)], width)
    kernel = _kernel(echelon, width)
    if any([row[width] for row in echelon.rows[len(echelon.places):]]):
        return Solution(None, kernel, _bar(matrix, vector))
    tops = [0] * width
    for row, place in zip(echelon.rows, echelon.places):
        tops[place] = row[width] * matrix.bottom
    return Solution(Vector(tops, echelon.scale * vector.bottom), kernel, None)


def _kernel(echelon, width):
    kernel = []
    for free in range(width):
        if free not in echelon.places:
            tops = [0] * width
            tops[free] = echelon.scale
            for row, place in zip(echelon.rows, echelon.places):
                tops[place] = -row[free]
            kernel.append(Vector(tops, echelon.scale))
    return kernel


def _bar(matrix, vector):
    # What is asked of a bar is a linear system itself, and it has an answer just where the first one has none.
    conditions = Matrix(list(zip(*matrix.tops)) + [vector.tops])
    return solve(conditions, Vector([0] * matrix.width + [vector.bottom])).answer


def rank(matrix):
    """Returns the greatest number of linearly independent rows."""
    return len(reduced(matrix.tops, matrix.width).places)
