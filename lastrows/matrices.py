"""Matrices of exact fractions."""

from lastrows.errors import Empty, NotSquare, RaggedRows, SizeMismatch, ZeroBottom
from lastrows.ratios import Ratio, as_ratio, common_bottom, common_divisor, is_factor, over_one_bottom
from lastrows.vectors import Vector, sum_of_products


class Matrix:
    """Rows of integers over one common bottom, in lowest terms."""

    def __init__(self, rows, bottom=1):
        _check_rows(rows)
        if bottom == 0:
            raise ZeroBottom()
        divisor = common_divisor([top for row in rows for top in row], bottom)
        self.tops = tuple([tuple([top // divisor for top in row]) for row in rows])
        self.bottom = bottom // divisor
        self.height = len(rows)
        self.width = len(rows[0])

    def __getitem__(self, at):
        i, j = at
        return Ratio(self.tops[i][j], self.bottom)

    def __iter__(self):
        raise TypeError("a matrix is read by its rows, columns and places")

    def __add__(self, other):
        if not isinstance(other, Matrix):
            return NotImplemented
        check_sizes(self.height, other.height)
        check_sizes(self.width, other.width)
        rows = [
            [one * other.bottom + two * self.bottom for one, two in zip(left, right)]
            for left, right in zip(self.tops, other.tops)
        ]
        return Matrix(rows, self.bottom * other.bottom)

    def __sub__(self, other):
        if not isinstance(other, Matrix):
            return NotImplemented
        return self + -other

    def __neg__(self):
        return self * -1

    def __mul__(self, other):
        if isinstance(other, Matrix):
            return self._times_matrix(other)
        if isinstance(other, Vector):
            return self._times_vector(other)
        if is_factor(other):
            return self._times_factor(other)
        return NotImplemented

    def __rmul__(self, other):
        # A vector on the left must not become the product with a vector on the right.
        if not is_factor(other):
            return NotImplemented
        return self._times_factor(other)

    def __pow__(self, other):
        check_square(self)
        power = Matrix.identity(self.height)
        for _ in range(other):
            power = power * self
        return power

    def __eq__(self, other):
        return isinstance(other, Matrix) and self.tops == other.tops and self.bottom == other.bottom

    def __str__(self):
        return "; ".join([str(Vector(row, self.bottom)) for row in self.tops])

    def _times_matrix(self, other):
        check_sizes(self.width, other.height)
        columns = list(zip(*other.tops))
        rows = [[sum_of_products(row, column) for column in columns] for row in self.tops]
        return Matrix(rows, self.bottom * other.bottom)

    def _times_vector(self, other):
        check_sizes(self.width, len(other))
        return Vector([sum_of_products(row, other.tops) for row in self.tops], self.bottom * other.bottom)

    def _times_factor(self, other):
        factor = as_ratio(other)
        return Matrix([[top * factor.top for top in row] for row in self.tops], self.bottom * factor.bottom)

    def row(self, i):
        """Returns the row at an index as a vector."""
        return Vector(self.tops[i], self.bottom)

    def column(self, j):
        """Returns the column at an index as a vector."""
        return Vector([row[j] for row in self.tops], self.bottom)

    def trace(self):
        """Returns the sum of the entries on the diagonal."""
        check_square(self)
        return Ratio(sum([row[i] for i, row in enumerate(self.tops)]), self.bottom)

    @property
    def transpose(self):
        """The transposed matrix."""
        return Matrix(list(zip(*self.tops)), self.bottom)

    @property
    def is_zero(self):
        """Whether all entries are zero."""
        return not any([any(row) for row in self.tops])

    @property
    def is_symmetric(self):
        """Whether the matrix is square and equal to its transpose."""
        return self == self.transpose

    @staticmethod
    def identity(size):
        """Returns the matrix with ones on the diagonal and zeros elsewhere."""
        return Matrix([[1 if i == j else 0 for j in range(size)] for i in range(size)])

    @staticmethod
    def zero(height, width):
        """Returns the matrix of zeros."""
        return Matrix([[0] * width for _ in range(height)])

    # A class method, since a method with a star needs a plain first parameter; it is called like the static ones.
    @classmethod
    def diagonal(cls, *ratios):
        """Returns the matrix with the given ratios on its diagonal and zeros elsewhere."""
        tops, bottom = over_one_bottom(ratios)
        return cls([[top if i == j else 0 for j in range(len(tops))] for i, top in enumerate(tops)], bottom)

    @staticmethod
    def columns(vectors):
        """Returns the matrix with the given vectors as its columns."""
        for vector in vectors:
            check_sizes(len(vectors[0]), len(vector))
        return from_rows(vectors).transpose

    @staticmethod
    def read(text):
        """Returns the matrix whose written form is the text."""
        return from_rows([Vector.read(part) for part in text.split("; ")])


def from_rows(vectors):
    """Returns the matrix with the given vectors as its rows."""
    bottom = common_bottom([vector.bottom for vector in vectors])
    rows = [[top * (bottom // vector.bottom) for top in vector.tops] for vector in vectors]
    return Matrix(rows, bottom)


def check_square(matrix):
    """Raises NotSquare if the matrix is not square."""
    if matrix.height != matrix.width:
        raise NotSquare(matrix.height, matrix.width)


def check_sizes(left, right):
    """Raises SizeMismatch if the two sizes differ."""
    if left != right:
        raise SizeMismatch(left, right)


def _check_rows(rows):
    if len(rows) == 0 or len(rows[0]) == 0:
        raise Empty()
    for index, row in enumerate(rows):
        if len(row) != len(rows[0]):
            raise RaggedRows(index)
