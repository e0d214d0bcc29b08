"""The commands of the desk that tell something of a task: each one gives a list of output lines."""

from lastrows.adjoints import measure_with_adjoint
from lastrows.answers import NoReturn, TraceBar, TraceDiffers
from lastrows.energy import EnergySolver
from lastrows.halting import halting_side
from lastrows.inverses import check_regular
from lastrows.leastmemory import least_memory
from lastrows.matrices import check_sizes
from lastrows.memories import memory
from lastrows.restarts import restart
from lastrows.rowmaking import forgetful_rows
from lastrows.solvers import LeastSolver, OrthogonalSolver
from lastrows.states import advance, first_state, is_at_end
from lastrows.twosided import TwoSided
from lastrows.walks import Walk


def _walk_lines(task, _):
    walk = Walk(task.matrix, task.measure, task.side)
    lines = []
    for m, (row, square, shares) in enumerate(zip(walk.rows, walk.squares, walk.shares)):
        told = " ".join([str(share) for share in shares])
        lines.append(f"row {m}: {row} | {square} | {told}")
    return [*lines, f"grade {walk.grade} band {walk.band}"]


def _memory_lines(task, _):
    found = memory(task.matrix, task.measure)
    return [f"memory {found.least}", f"adjoint {_or_none(found.poly)}", f"start {found.start}"]


def _adjoint_lines(task, poly):
    answer = measure_with_adjoint(task.matrix, poly)
    if isinstance(answer, TraceDiffers):
        return [f"trace {answer.power}"]
    if isinstance(answer, NoReturn):
        return ["no return"]
    if isinstance(answer, TraceBar):
        return [f"bar {answer.witness}"]
    return [f"granted {answer.measure.matrix}"]


def _least_lines(task, _):
    found = least_memory(task.matrix)
    return [f"least {found.least}", f"measure {found.measure.matrix}"]


def _solve_lines(task, way):
    solver = _solver(task, way)
    return [_step_line(step) for step in solver.steps()]


def _solver(task, way):
    if way == "least":
        return LeastSolver(task)
    if way == "orthogonal":
        return OrthogonalSolver(task)
    return EnergySolver(task)


def _short_lines(task, keep):
    check_regular(task.matrix)
    state = first_state(task)
    states = [state]
    while len(states) <= task.size and not is_at_end(state):
        state = advance(task, state, keep=keep)
        states.append(state)
    return [f"state {one.count}: {one.answer} | {one.residual}" for one in states]


def _forget_lines(task, keep):
    rows = list(forgetful_rows(task.matrix, task.measure, task.side, keep=keep))
    return [f"row {m}: {row}" for m, row in enumerate(rows)]


def _restart_lines(task, counts):
    every, rounds = counts
    return [_step_line(step) for step in restart(task, every=every, rounds=rounds)]


def _step_line(step):
    if step.answer is None:
        return f"step {step.count}: none"
    return f"step {step.count}: {step.answer} | {step.residual} | {step.square}"


def _partner_lines(task, partner):
    check_sizes(task.size, len(partner))
    walk = TwoSided(task.matrix, task.side, partner)
    answers = [f"answer {k}: {_or_none(walk.answer_at(k))}" for k in range(walk.halt + 1)]
    return [f"halt {walk.halt} {walk.ending}", *answers]


def _halt_lines(task, partner):
    check_sizes(task.size, len(partner))
    side, halt = halting_side(task.matrix, partner)
    return [f"side {side} halts at {halt}"]


def _or_none(thing):
    return "none" if thing is None else str(thing)


_TELLERS = {
    "walk": _walk_lines,
    "memory": _memory_lines,
    "adjoint": _adjoint_lines,
    "least": _least_lines,
    "solve": _solve_lines,
    "short": _short_lines,
    "forget": _forget_lines,
    "restart": _restart_lines,
    "partner": _partner_lines,
    "halt": _halt_lines,
}


def tells(word):
    """Tells whether this is the word of a command that tells something of a task."""
    return word in _TELLERS


def told_lines(word, task, argument):
    """Returns the list of the output lines of such a command; the argument is None if it takes none."""
    tell = _TELLERS[word]
    return tell(task, argument)
