"""The solver for the least energy, for matrices that are their own adjoint and positive."""

from lastrows.elimination import solve
from lastrows.errors import NotSelfAdjoint
from lastrows.factors import measure_times
from lastrows.polys import Poly
from lastrows.solvers import Solver
from lastrows.states import advance, first_state
from lastrows.steps import EnergyStep


class EnergySolver(Solver):
    """Tells the answers that have the least energy."""

    def __init__(self, task):
        Solver.__init__(self, task)
        _check_self_adjoint(task)
        # The matrix is positive exactly if its product with that of the measure is a measure.
        measure_times(task.matrix, task.measure, Poly.x())

    def steps(self):
        """Yields the steps from 0 to the grade of the side."""
        solution = solve(self.task.matrix, self.task.side).answer
        state = first_state(self.task)
        yield _energy_step(self.task, state, solution)
        while not state.residual.is_zero:
            state = advance(self.task, state, keep=self.task.size, way="energy")
            yield _energy_step(self.task, state, solution)


def _check_self_adjoint(task):
    adjoint = task.measure.adjoint(task.matrix)
    for i in range(task.size):
        for j in range(task.size):
            if adjoint[i, j] != task.matrix[i, j]:
                raise NotSelfAdjoint(i, j)


def _energy_step(task, state, solution):
    measure = task.measure
    missing = solution - state.answer
    # The matrix times what is missing is the residual.
    energy = measure.dot(state.residual, missing)
    square = measure.norm(state.residual)
    return EnergyStep(state.count, state.answer, state.residual, square, energy, measure.norm(missing))
