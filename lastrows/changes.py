"""Changes: a new task from a task, and how an answer of the new one is led back."""

from lastrows.errors import BadChange, ZeroScale
from lastrows.inverses import check_regular, inverse
from lastrows.matrices import Matrix, check_sizes, check_square
from lastrows.measures import Measure
from lastrows.tasks import Task
from lastrows.vectors import Vector


class Back:
    """The way back: a matrix to multiply an answer with, and a vector to add."""

    def __init__(self, matrix, vector):
        self.matrix = matrix
        self.vector = vector

    def lead(self, x):
        """Returns the answer of the old task for an answer of the new one."""
        return self.matrix * x + self.vector


class Change:
    """The name of a change, the new task, and the way back, None if there is none."""

    def __init__(self, name, task, back):
        self.name = name
        self.task = task
        self.back = back


def shift(task, ratio):
    """Adds a multiple of the identity to the matrix."""
    matrix = task.matrix + Matrix.identity(task.size) * ratio
    return Change("shift", Task(matrix, task.side, task.measure), None)


def scale(task, ratio):
    """Multiplies the matrix."""
    if ratio.is_zero:
        raise ZeroScale()
    back = _times(Matrix.identity(task.size) * ratio)
    return Change("scale", Task(task.matrix * ratio, task.side, task.measure), back)


def turn(task, matrix):
    """Tells the task in the base of the columns of a matrix."""
    check_square(matrix)
    check_sizes(task.size, matrix.height)
    turned = inverse(matrix)
    measure = Measure(matrix.transpose * task.measure.matrix * matrix)
    return Change("turn", Task(turned * task.matrix * matrix, turned * task.side, measure), _times(matrix))


def remeasure(task, measure):
    """Takes another measure."""
    check_sizes(task.size, measure.size)
    return Change("remeasure", Task(task.matrix, task.side, measure), _nothing(task))


def guess(task, vector):
    """Takes a vector as a first answer, so that only the rest is left to be solved."""
    check_sizes(task.size, len(vector))
    rest = task.side - task.matrix * vector
    return Change("guess", Task(task.matrix, rest, task.measure), Back(Matrix.identity(task.size), vector))


def ahead(task, poly):
    """Multiplies both sides by a polynomial of the matrix."""
    factor = poly(task.matrix)
    check_regular(factor)
    return Change("ahead", _multiplied(task, factor), _nothing(task))


def normal(task):
    """Multiplies both sides by the adjoint of the matrix."""
    check_regular(task.matrix)
    return Change("normal", _multiplied(task, task.measure.adjoint(task.matrix)), _nothing(task))


def flip(task):
    """Takes the adjoint of the matrix in its place."""
    return Change("flip", Task(task.measure.adjoint(task.matrix), task.side, task.measure), None)


_WITH_ARGUMENT = {"shift": shift, "scale": scale, "turn": turn, "remeasure": remeasure, "guess": guess, "ahead": ahead}
_ALONE = {"normal": normal, "flip": flip}


def change_named(name, task, argument):
    """Returns the change of a name; an argument is used only by those that take one."""
    if name in _ALONE:
        change = _ALONE[name]
        return change(task)
    if name not in _WITH_ARGUMENT:
        raise BadChange(name)
    change_by = _WITH_ARGUMENT[name]
    return change_by(task, argument)


def _times(matrix):
    return Back(matrix, Vector.zero(matrix.height))


def _nothing(task):
    return _times(Matrix.identity(task.size))


def _multiplied(task, factor):
    return Task(factor * task.matrix, factor * task.side, task.measure)
