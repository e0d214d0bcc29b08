"""Solvers in the long form, which keep all that they have made: the least and the orthogonal residual."""

from lastrows.inverses import check_regular
from lastrows.polys import Poly
from lastrows.ratios import Ratio
from lastrows.states import advance, first_state
from lastrows.steps import Step
from lastrows.walks import Walk


class Solver:
    """What all solvers have: a task whose matrix has an inverse."""

    def __init__(self, task):
        check_regular(task.matrix)
        self.task = task


class LeastSolver(Solver):
    """Tells the answers whose residuals have the least norm."""

    def __init__(self, task):
        Solver.__init__(self, task)

    def steps(self):
        """Yields the steps from 0 to the grade of the side."""
        state = first_state(self.task)
        yield _least_step(self.task, state)
        # The residual is zero at the grade and not before. There are never more directions than the size.
        while not state.residual.is_zero:
            state = advance(self.task, state, keep=self.task.size)
            yield _least_step(self.task, state)


class OrthogonalSolver(Solver):
    """Tells the answers whose residuals are orthogonal to the space."""

    def __init__(self, task):
        Solver.__init__(self, task)

    def steps(self):
        """Yields the steps from 0 to the grade of the side."""
        walk = Walk(self.task.matrix, self.task.measure, self.task.side)
        for count, poly in enumerate(walk.polys):
            yield _orthogonal_step(self.task, count, poly)


def _least_step(task, state):
    return Step(state.count, state.answer, state.residual, task.measure.norm(state.residual))


def _orthogonal_step(task, count, poly):
    # A residual is q(matrix) * side with q(0) = 1, and orthogonal to the space it is a multiple of the row of the walk.
    # So q is the polynomial of this row divided by its constant coefficient, and the answer is (1 - q) / x there.
    if poly[0].is_zero:
        return Step(count, None, None, None)
    share = (poly // Poly.x()) * Ratio(-1).over(poly[0])
    answer = share(task.matrix) * task.side
    residual = task.side - task.matrix * answer
    return Step(count, answer, residual, task.measure.norm(residual))
