"""Points 1 to 3 over the whole program: nothing that is passed in changes, nothing that is made changes later, and the
same question gets the same answer."""

import importlib
import inspect
import os

import lastrows
from lastrows import (adjoints, answers, changes, courses, cyclic, elimination, energy, factors, grams, halting,
                      inverses, leastmemory, memories, polys, reaches, restarts, rowmaking, sameness, solvers, spaces,
                      states, twosided, walks)
from lastrows.desk import Desk
from lastrows.errors import LastrowsError
from lastrows.history import History
from lastrows.matrices import Matrix
from lastrows.measures import Measure
from lastrows.polys import Poly
from lastrows.ratios import Ratio
from lastrows.tasks import Task
from lastrows.vectors import Vector
from tests.support import Case, cycle, described, diagonal, some_cyclic, some_full, some_measure, some_vector, source


def questions(a, side, measure):
    """Returns functions and lists of their arguments, over the whole interface, for a matrix with an inverse."""
    task = Task(a, side, measure)
    size, poly = a.height, Poly([1, 2, 3])
    positive = Task(a.transpose * a, side, Measure.plain(size))
    course = courses.course_of(task)
    rows = [side, a * side]
    return [
        (elimination.solve, [a, side]), (elimination.rank, [a]), (inverses.determinant, [a]), (inverses.inverse, [a]),
        (measure.adjoint, [a]), (polys.common, [poly, Poly([2, 1])]), (spaces.powers, [a, side, 3]),
        (spaces.annihilator, [a, side]), (spaces.grade, [a, side]), (cyclic.minimal_polynomial, [a]),
        (cyclic.base_start, [a]), (cyclic.as_polynomial, [a, a * a]), (walks.Walk, [a, measure, side]),
        (walks.Walk(a, measure, side).hessenberg, [2]), (rowmaking.next_row, [a, measure, rows]),
        (grams.gram, [measure, rows]), (grams.gram_determinants, [a, measure, side]), (reaches.reach, [a, measure.matrix]),
        (memories.memory, [a, measure]), (memories.memory(a, measure).holds, [a, measure]),
        (answers.trace_table, [a, poly]), (adjoints.measure_with_adjoint, [a, Poly.x()]), (adjoints.skew_poly, [a]),
        (factors.adjoint_factor, [a, measure, Measure.plain(size)]), (factors.measure_times, [a, measure, Poly([2])]),
        (leastmemory.least_memory, [a]), (sameness.same_spaces, [a, a * a]),
        (sameness.same_walks, [a, measure, Measure.plain(size)]), (Task, [a, side, measure]),
        (solvers.Solver, [task]), (solvers.LeastSolver, [task]), (solvers.OrthogonalSolver, [task]),
        (energy.EnergySolver, [positive]), (states.first_state, [task]), (restarts.moving_side, [a, measure]),
        (courses.Course, [list(course.polys), list(course.curve)]), (courses.course_of, [task]),
        (courses.task_of, [course]), (twosided.TwoSided, [a, side, side]),
        (twosided.TwoSided(a, side, side).answer_at, [1]), (twosided.moments, [a, side, side, 5]),
        (halting.halting_side, [a, side]), (changes.shift, [task, Ratio(1, 2)]), (changes.scale, [task, Ratio(1, 2)]),
        (changes.turn, [task, a]), (changes.remeasure, [task, Measure.plain(size)]), (changes.guess, [task, side]),
        (changes.ahead, [task, Poly([3])]), (changes.normal, [task]), (changes.flip, [task]),
    ]


def samples():
    numbers = source(20)
    for size in (3, 4):
        a = some_cyclic(numbers, size, 3)
        while elimination.rank(a) < size:
            a = some_cyclic(numbers, size, 3)
        yield a, some_full(numbers, a), some_measure(numbers, size)
    yield cycle(3), Vector([1, 2, 4]), Measure.plain(3)
    yield diagonal(1, 2, 3, 5), Vector([1, 1, 1, 1]), Measure.plain(4)


class QuestionsTest(Case):
    def test_the_same_question_twice_and_the_arguments(self):
        for a, side, measure in samples():
            for call, arguments in questions(a, side, measure):
                before = described(tuple(tuple(one) if isinstance(one, list) else one for one in arguments))
                try:
                    self.assert_told_twice(lambda: call(*arguments))
                except LastrowsError as error:
                    one = self.caught(type(error), call, *arguments)
                    self.assertEqual(described(one), described(error))
                after = described(tuple(tuple(one) if isinstance(one, list) else one for one in arguments))
                self.assertEqual(after, before, call.__name__)

    def test_tuples_do_as_well_as_lists(self):
        for a, side, measure in samples():
            for call, arguments in questions(a, side, measure):
                others = [tuple(one) if isinstance(one, list) else one for one in arguments]
                if any(isinstance(one, list) for one in arguments):
                    self.assertEqual(described(call(*others)), described(call(*arguments)))

    def test_steps_and_states(self):
        for a, side, measure in samples():
            task = Task(a, side, measure)
            before = described(task)
            for kind in (solvers.LeastSolver, solvers.OrthogonalSolver):
                solver = kind(task)
                self.assert_told_twice(lambda: tuple(solver.steps()))
            self.assert_told_twice(lambda: states.advance(task, states.first_state(task), keep=2))
            self.assert_told_twice(lambda: restarts.restart(task, every=2, rounds=2))
            self.assertEqual(described(task), before)

    def test_desks_and_histories(self):
        script = "task 2 1; 1 3 | 1 0 | plain\nwalk\nscale 2\nmemory\nback\nsolve least\nhalt 1 1\nflip\nshort 1"
        self.assertEqual(Desk().run(script), Desk().run(script))
        one, two = History(Task.read("2 1; 1 3 | 1 0 | plain")), History(Task.read("2 1; 1 3 | 1 0 | plain"))
        for history in (one, two):
            history.apply("turn", Matrix([[1, 1], [0, 2]]))
        self.assertEqual(described(one.present()), described(two.present()))

    def test_returned_values_are_made_anew(self):
        for a, side, measure in samples():
            found = [result for call, arguments in questions(a, side, measure) for result in values(call(*arguments))]
            self.assertGreater(len(found), 100)
            for value in found:
                made = type(value)(value.top, value.bottom) if isinstance(value, Ratio) else type(value)(value.tops,
                                                                                                         value.bottom)
                self.assert_same(made, value)


def values(thing):
    """Returns all ratios, vectors, matrices and polynomials within a thing."""
    if isinstance(thing, (Ratio, Vector, Matrix, Poly)):
        return [thing]
    if isinstance(thing, tuple):
        return [one for part in thing for one in values(part)]
    if hasattr(thing, "__dict__"):
        return [one for part in vars(thing).values() for one in values(part)]
    return []


class CopiesTest(Case):
    def test_lists_that_are_changed_afterwards(self):
        tops, rows, vectors = [1, 2], [[1, 2], [3, 4]], [Vector([1, 0]), Vector([1, 1])]
        ratios, course_polys = [Ratio(1), Ratio(1, 2)], [Poly([-1, 1]), Poly([1, 0, 1])]
        made = [Vector(tops), Poly(tops), Matrix(rows), elimination.Solution(None, vectors, None), Vector.of(ratios),
                Poly.of(ratios), Matrix.columns(vectors), states.State(0, vectors[0], vectors[0], vectors),
                courses.Course(course_polys, ratios), rowmaking.next_row(cycle(2), Measure.plain(2), vectors)]
        before = described(tuple(made))
        for kept in (tops, rows[0], rows, vectors, ratios, course_polys):
            kept[0] = kept[1]
            kept.append(kept[0])
        self.assertEqual(described(tuple(made)), before)

    def test_lists_stay_as_they_are(self):
        tops, rows, vectors, ratios = [2, 4, 0], [[2, 4], [6, 8]], [Vector([1, 0]), Vector([1, 1])], [Ratio(1), Ratio(0)]
        for call in (lambda: Vector(tops, 2), lambda: Poly(tops, 2), lambda: Matrix(rows, 2), lambda: Vector.of(ratios),
                     lambda: Poly.of(ratios), lambda: Matrix.columns(vectors),
                     lambda: states.State(0, vectors[0], vectors[0], vectors),
                     lambda: grams.gram(Measure.plain(2), vectors)):
            call()
        self.assertEqual((tops, rows, ratios), ([2, 4, 0], [[2, 4], [6, 8]], [Ratio(1), Ratio(0)]))
        self.assertEqual(vectors, [Vector([1, 0]), Vector([1, 1])])


class ReturnedObjectsTest(Case):
    """What the package has returned may be passed in again, whatever the number of its digits."""

    def test_long_numbers_go_on(self):
        numbers = source(21)
        task = Task(some_cyclic(numbers, 3, 10 ** 20), some_vector(numbers, 3, 10 ** 20), some_measure(numbers, 3, 10 ** 20))
        task = changes.ahead(changes.normal(task).task, Poly([1, 10 ** 19, 3])).task
        self.assertGreater(abs(task.matrix.tops[0][0]), 10 ** 300)
        steps = list(solvers.LeastSolver(task).steps())
        self.assertTrue(steps[-1].residual.is_zero)
        self.assertTrue(list(solvers.OrthogonalSolver(Task(task.matrix, steps[1].residual, task.measure)).steps()))
        self.assertEqual(str(steps[1].square), "long")
        course = courses.course_of(task)
        found = courses.course_of(courses.task_of(course))
        self.assertEqual((found.polys, found.curve), (course.polys, course.curve))
        walk = twosided.TwoSided(task.matrix, task.side, steps[1].residual)
        self.assertEqual(walk.halt, 3)
        self.assertEqual(walk.answer_at(3), steps[-1].answer)
        self.assertTrue(memories.memory(task.matrix, task.measure).holds(task.matrix, task.measure))
        self.assert_made_anew(steps[-1].answer)


class ObjectsTest(Case):
    def test_no_class_but_two_changes_its_objects(self):
        """Looks for assignments to attributes outside of the constructors."""
        folder = os.path.dirname(lastrows.__file__)
        for name in sorted(os.listdir(folder)):
            if name.endswith(".py") and name != "__init__.py":
                module = importlib.import_module(f"lastrows.{name[:-3]}")
                for title, kind in inspect.getmembers(module, inspect.isclass):
                    if kind.__module__ == module.__name__ and title not in ("History", "Desk"):
                        for method, function in vars(kind).items():
                            if inspect.isfunction(function) and method != "__init__":
                                self.assertNotRegex(inspect.getsource(function), r"self\.[a-z_]+ (=|\+=) ",
                                                    f"{title}.{method}")
