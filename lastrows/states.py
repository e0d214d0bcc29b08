"""The short form of the solvers: states that hold only the last few directions."""

from lastrows.errors import BadWay
from lastrows.vectors import Vector, without


class State:
    """An answer, its residual, and the last directions; the last one of these is still to be used."""

    def __init__(self, count, answer, residual, kept):
        self.count = count
        self.answer = answer
        self.residual = residual
        self.kept = tuple(kept)


def first_state(task):
    """Returns the state that has made no step yet."""
    return State(0, Vector.zero(task.size), task.side, [task.side])


def is_at_end(state):
    """Tells whether no further step changes the state."""
    return state.residual.is_zero or state.kept[-1].is_zero


def advance(task, state, *, keep, way="least"):
    """Returns the next state, which keeps the last `keep` directions."""
    if way not in ("least", "energy"):
        raise BadWay(way)
    if is_at_end(state):
        return State(state.count, state.answer, state.residual, state.kept)
    matrix = task.matrix
    used = [direction for direction in state.kept if not direction.is_zero]
    images = [matrix * direction for direction in used]
    # The two ways differ only in the vectors that the residual and the next image are made orthogonal to.
    marks = [task.measure.matrix * vector for vector in (images if way == "least" else used)]
    squares = [image.dot(mark) for image, mark in zip(images, marks)]
    width = state.residual.dot(marks[-1]).over(squares[-1])
    beyond = matrix * images[-1]
    shares = [beyond.dot(mark).over(square) for mark, square in zip(marks, squares)]
    kept = [*state.kept, without(images[-1], shares, used)]
    answer = state.answer + used[-1] * width
    residual = state.residual - images[-1] * width
    return State(state.count + 1, answer, residual, kept[-keep:])
