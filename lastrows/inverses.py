"""Determinants and inverses of square matrices."""

from lastrows.elimination import reduced, solve
from lastrows.errors import Singular
from lastrows.matrices import Matrix, check_square
from lastrows.ratios import Ratio
from lastrows.vectors import Vector


def determinant(matrix):
    """Returns the determinant of a square matrix as a ratio."""
    check_square(matrix)
    echelon = reduced(matrix.tops, matrix.width)
    if len(echelon.places) < matrix.height:
        return Ratio(0)
    bottom = 1
    for _ in range(matrix.height):
        bottom = bottom * matrix.bottom
    return Ratio(echelon.turn * echelon.scale, bottom)


def inverse(matrix):
    """Returns the inverse of a square matrix."""
    check_square(matrix)
    size = matrix.height
    ones = Matrix.identity(size).tops
    echelon = reduced([list(row) + list(one) for row, one in zip(matrix.tops, ones)], size)
    if len(echelon.places) < size:
        raise Singular(solve(matrix, Vector.zero(size)).kernel[0])
    return Matrix([[top * matrix.bottom for top in row[size:]] for row in echelon.rows], echelon.scale)


def check_regular(matrix):
    """Raises Singular if the square matrix has no inverse."""
    inverse(matrix)
