"""The walk: mutually orthogonal rows of a start, with all that each row needed of the earlier ones."""

from lastrows.matrices import Matrix
from lastrows.polys import Poly
from lastrows.ratios import Ratio
from lastrows.vectors import Vector, without


class Walk:
    """The rows of a start, their squares, the shares of the earlier rows, and the polynomials that give the rows."""

    def __init__(self, a, measure, start):
        rows = []
        squares = []
        shares = []
        polys = [Poly([1])]
        row = start
        while not row.is_zero:
            rows.append(row)
            squares.append(measure.norm(row))
            step = a * row
            told = tuple([measure.dot(step, earlier).over(square) for earlier, square in zip(rows, squares)])
            shares.append(told)
            polys.append(without(Poly.x() * polys[-1], told, polys))
            row = without(step, told, rows)
        self.rows = tuple(rows)
        self.squares = tuple(squares)
        self.shares = tuple(shares)
        self.polys = tuple(polys)
        self.grade = len(rows)

    def __len__(self):
        return len(self.rows)

    def __iter__(self):
        return iter(self.rows)

    def hessenberg(self, k):
        """Returns the matrix of the first k shares, with ones right below the diagonal; k is from 1 to the grade."""
        return hessenberg_of(self.shares[:k])

    @property
    def band(self):
        """How many rows before the last one are needed at most to make the next row."""
        needed = [m - i for m, told in enumerate(self.shares) for i, share in enumerate(told) if not share.is_zero]
        return max(needed, default=0)


def hessenberg_of(shares):
    """Returns the matrix with the given shares as the upper parts of its columns, and ones right below its diagonal."""
    size = len(shares)
    ends = [Ratio(1)] + [Ratio(0)] * size
    return Matrix.columns([Vector.of((list(told) + ends)[:size]) for told in shares])
