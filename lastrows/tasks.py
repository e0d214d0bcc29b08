"""Tasks: linear systems with a measure."""

from lastrows.errors import BadText, SizeOutOfRange
from lastrows.matrices import Matrix, check_sizes, check_square
from lastrows.measures import Measure
from lastrows.vectors import Vector


class Task:
    """The linear system `matrix * x == side` with a measure."""

    def __init__(self, matrix, side, measure):
        _check_matrix(matrix)
        check_sizes(matrix.height, len(side))
        check_sizes(matrix.height, measure.size)
        self.matrix = matrix
        self.side = side
        self.measure = measure
        self.size = matrix.height

    def __str__(self):
        return f"{self.matrix} | {self.side} | {_written_measure(self.measure)}"

    @staticmethod
    def read(text):
        """Returns the task whose written form is the text; a plain measure may also be written out."""
        parts = text.split(" | ")
        if len(parts) != 3:
            raise BadText(text)
        matrix = Matrix.read(parts[0])
        side = Vector.read(parts[1])
        return Task(matrix, side, _read_measure(parts[2], matrix))


def _written_measure(measure):
    if measure.matrix == Matrix.identity(measure.size):
        return "plain"
    return str(measure.matrix)


def _read_measure(text, matrix):
    if text != "plain":
        return Measure(Matrix.read(text))
    # Without this the plain measure of a matrix of any height would be made, only to be refused.
    _check_matrix(matrix)
    return Measure.plain(matrix.height)


def _check_matrix(matrix):
    check_square(matrix)
    if matrix.height < 2 or matrix.height > 5:
        raise SizeOutOfRange(matrix.height)
