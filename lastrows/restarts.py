"""Restarts: solving anew after a number of steps; and the sides that a restart after each step moves."""

from lastrows.inverses import check_regular
from lastrows.states import advance, first_state
from lastrows.steps import Step
from lastrows.tasks import Task
from lastrows.vectors import Vector


def restart(task, *, every, rounds=1):
    """Returns the steps of a solver that starts anew after every so many steps."""
    check_regular(task.matrix)
    found = [Step(0, Vector.zero(task.size), task.side, task.measure.norm(task.side))]
    for _ in range(rounds):
        if not found[-1].residual.is_zero:
            found.append(_next_round(task, found[-1], every))
    return tuple(found)


def _next_round(task, last, every):
    rest = Task(task.matrix, last.residual, task.measure)
    state = first_state(rest)
    # Behind the grade of the residual a state does not change any more, nor does its count.
    for _ in range(every):
        state = advance(rest, state, keep=every)
    answer = last.answer + state.answer
    return Step(last.count + state.count, answer, state.residual, task.measure.norm(state.residual))


def moving_side(a, measure):
    """Returns the first side that a restart after each step moves, or None if there is none."""
    if measure.adjoint(a) == -a:
        return None
    found = [side for side in _simple_sides(a.height) if not measure.dot(a * side, side).is_zero]
    return found[0]


def _simple_sides(size):
    units = [Vector.unit(size, place) for place in range(size)]
    sums = [units[low] + units[high] for low in range(size) for high in range(low + 1, size)]
    return units + sums
