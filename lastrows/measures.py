"""Measures: positive symmetric matrices, which give lengths and right angles."""

from lastrows.errors import NotPositive, NotSymmetric
from lastrows.inverses import inverse
from lastrows.matrices import Matrix, check_square, from_rows
from lastrows.ratios import Ratio, is_factor
from lastrows.vectors import Vector, without


class Measure:
    """A positive symmetric matrix with its triangle and its pivots."""

    def __init__(self, matrix):
        check_square(matrix)
        _check_symmetric(matrix)
        triangle, pivots = _factors(matrix)
        self.matrix = matrix
        self.size = matrix.height
        self.triangle = triangle
        self.pivots = pivots

    def __add__(self, other):
        if not isinstance(other, Measure):
            return NotImplemented
        return Measure(self.matrix + other.matrix)

    def __mul__(self, other):
        if not is_factor(other):
            return NotImplemented
        return Measure(self.matrix * other)

    def __rmul__(self, other):
        if not is_factor(other):
            return NotImplemented
        return self * other

    def __eq__(self, other):
        return isinstance(other, Measure) and self.matrix == other.matrix

    def dot(self, u, v):
        """Returns the dot of two vectors in this measure."""
        return u.dot(self.matrix * v)

    def norm(self, v):
        """Returns the squared length of a vector."""
        return self.dot(v, v)

    def adjoint(self, a):
        """Returns the matrix M for which the dot of `a * u` and v is the dot of u and `M * v`."""
        return inverse(self.matrix) * (a.transpose * self.matrix)

    @staticmethod
    def plain(size):
        """Returns the measure of the identity matrix."""
        return Measure(Matrix.identity(size))

    # A class method, since a method with a star needs a plain first parameter; it is called like the static ones.
    @classmethod
    def weights(cls, *ratios):
        """Returns the measure of the diagonal matrix with the given ratios."""
        return cls(Matrix.diagonal(*ratios))


def _check_symmetric(matrix):
    for i, row in enumerate(matrix.tops):
        for j, top in enumerate(row):
            if top != matrix.tops[j][i]:
                raise NotSymmetric(i, j)


def _factors(matrix):
    # The unit vectors are made orthogonal one by one. Their shares of the earlier ones are the triangle, and the
    # squares are the pivots, so the first vector without a positive square is a witness at the same time.
    rows = []
    squares = []
    shares = []
    for place in range(matrix.height):
        column = matrix.column(place)
        told = [column.dot(earlier).over(square) for earlier, square in zip(rows, squares)]
        row = without(Vector.unit(matrix.height, place), told, rows)
        square = row.dot(matrix * row)
        if square.sign != 1:
            raise NotPositive(row)
        rows.append(row)
        squares.append(square)
        shares.append(Vector.of(told + [Ratio(1)] + [Ratio(0)] * (matrix.height - place - 1)))
    return from_rows(shares), tuple(squares)
