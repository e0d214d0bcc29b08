"""Courses: the polynomials of a walk and the curve of the least residuals, and a task for any such pair."""

from lastrows.errors import BadPoly, NotFalling, NotFull, SizeOutOfRange, WrongStand, ZeroEnd
from lastrows.matrices import check_sizes
from lastrows.measures import Measure
from lastrows.polys import Poly
from lastrows.ratios import Ratio
from lastrows.solvers import LeastSolver
from lastrows.tasks import Task
from lastrows.vectors import Vector
from lastrows.walks import Walk, hessenberg_of


class Course:
    """The polynomials of the degrees 1 to size, and the curve of as many ratios."""

    def __init__(self, polys, curve):
        size = len(polys)
        if size < 2 or size > 5:
            raise SizeOutOfRange(size)
        check_sizes(size, len(curve))
        _check_polys(polys)
        _check_curve(polys, curve)
        self.polys = tuple(polys)
        self.curve = tuple(curve)


def _check_polys(polys):
    for place, poly in enumerate(polys, start=1):
        if poly.degree != place or poly[place] != Ratio(1):
            raise BadPoly(place)
    if polys[-1][0].is_zero:
        raise ZeroEnd()


def _check_curve(polys, curve):
    for place, ratio in enumerate(curve):
        if ratio.sign != 1 or (place > 0 and curve[place - 1].below(ratio)):
            raise NotFalling(place)
        # The polynomials start at the degree 1. The curve stands still just where the polynomial is zero at zero.
        if place > 0 and (ratio == curve[place - 1]) != polys[place - 1][0].is_zero:
            raise WrongStand(place)


def course_of(task):
    """Returns the course of a task whose matrix has an inverse and whose side is a full start."""
    solver = LeastSolver(task)
    walk = Walk(task.matrix, task.measure, task.side)
    if walk.grade < task.size:
        raise NotFull(walk.grade)
    squares = [step.square for step in solver.steps()]
    return Course(walk.polys[1:], squares[:task.size])


def task_of(course):
    """Returns a task that has the course."""
    polys = [Poly([1])] + list(course.polys)
    size = len(course.polys)
    shares = [_shares(Poly.x() * polys[m] - polys[m + 1], polys[:m + 1]) for m in range(size)]
    weights = [course.curve[0]] + [_weight(course, place) for place in range(1, size)]
    return Task(hessenberg_of(shares), Vector.unit(size, 0), Measure.weights(*weights))


def _shares(poly, parts):
    # The part at k is monic of the degree k, so the highest share is read off first.
    rest = poly
    found = []
    for part in parts[::-1]:
        share = rest[part.degree]
        found.append(share)
        rest = rest - part * share
    return found[::-1]


def _weight(course, place):
    # What the step to this place adds to the inverse of the square is the square of this polynomial at zero divided by
    # the norm of its row.
    end = course.polys[place - 1][0]
    if end.is_zero:
        return Ratio(1)
    gain = Ratio(1).over(course.curve[place]) - Ratio(1).over(course.curve[place - 1])
    return (end * end).over(gain)
