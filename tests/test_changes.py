"""Point 49: changes, and the ways back."""

from fractions import Fraction

from lastrows.changes import (Back, Change, ahead, flip, guess, normal, remeasure, scale, shift, turn)
from lastrows.errors import NotSquare, SizeMismatch, ZeroScale
from lastrows.inverses import inverse
from lastrows.matrices import Matrix
from lastrows.measures import Measure
from lastrows.polys import Poly
from lastrows.ratios import Ratio
from lastrows.tasks import Task
from lastrows.vectors import Vector
from tests.support import (Case, described, entries, flipped, fraction, minus, ratio, slow_rank, slow_solve, slow_times,
                           some_base, some_matrix, some_measure, some_singular, some_task, some_vector, source, table)

SMALL = Task.read("2 1; 1 3 | 1 0 | 2 0; 0 1")


def times(left, right):
    """Returns the product of two tables of fractions."""
    return [[sum((one * two for one, two in zip(row, column)), Fraction(0)) for column in zip(*right)] for row in left]


def slow_adjoint(task):
    """Returns the adjoint of the matrix of a task, column by column from its meaning."""
    weights, rows = table(task.measure.matrix), table(task.matrix)
    wanted = times(flipped(rows), weights)
    return flipped([slow_solve(weights, list(column)) for column in zip(*wanted)])


def slow_value(poly, rows):
    """Returns the polynomial of a table of fractions."""
    power = [[Fraction(int(i == j)) for j in range(len(rows))] for i in range(len(rows))]
    total = [[Fraction(0)] * len(rows) for _ in rows]
    for k in range(len(poly)):
        total = [[one + fraction(poly[k]) * two for one, two in zip(left, right)] for left, right in zip(total, power)]
        power = times(power, rows)
    return total


def tasks(seed):
    numbers = source(seed)
    for size in range(2, 6):
        yield some_task(numbers, size)
        yield some_task(numbers, size, 10 ** 20)
        yield Task(some_base(numbers, size), Vector.zero(size), Measure.plain(size))
        yield Task(some_singular(numbers, size), some_vector(numbers, size), some_measure(numbers, size))


class ChangeCase(Case):
    def check(self, change, task, *arguments, matrix=None, side=None, measure=None, back=True):
        """Checks the change and its new task against tables of fractions; parts that are left out stay as they are."""
        before = described((task, arguments))
        found = self.assert_told_twice(lambda: change(task, *arguments))
        self.assertEqual(described((task, arguments)), before)
        self.assertIs(type(found), Change)
        self.assertEqual(sorted(vars(found)), ["back", "name", "task"])
        self.assertEqual(found.name, change.__name__)
        self.assertIs(type(found.task), Task)
        self.assertEqual(table(found.task.matrix), matrix or table(task.matrix))
        self.assertEqual(entries(found.task.side), side or entries(task.side))
        self.assertEqual(table(found.task.measure.matrix), measure or table(task.measure.matrix))
        if back:
            self.check_back(found, task)
        else:
            self.assertIsNone(found.back)
        return found

    def check_back(self, found, task):
        self.assertIs(type(found.back), Back)
        x = some_vector(source(490), task.size)
        self.assert_same(found.back.lead(x), found.back.matrix * x + found.back.vector)
        if slow_rank(table(found.task.matrix)) == task.size:
            solution = slow_solve(table(found.task.matrix), entries(found.task.side))
            led = found.back.lead(Vector.of([ratio(number) for number in solution]))
            self.assertEqual(slow_times(table(task.matrix), entries(led)), entries(task.side))

    def check_changes_nothing(self, found):
        for x in (some_vector(source(491), found.task.size), Vector.zero(found.task.size)):
            self.assert_same(found.back.lead(x), x)


class ClassesTest(Case):
    def test_back(self):
        back = Back(Matrix([[1, 2], [3, 4]]), Vector([5, 6]))
        self.assertEqual(vars(back), {"matrix": Matrix([[1, 2], [3, 4]]), "vector": Vector([5, 6])})
        self.assertEqual(str(back.lead(Vector([1, -1], 2))), "9/2 11/2")
        self.assertEqual(str(back.lead(Vector([1, -1], 2))), "9/2 11/2")

    def test_change(self):
        back = Back(Matrix.identity(2), Vector.zero(2))
        self.assertEqual(vars(Change("scale", SMALL, back)), {"name": "scale", "task": SMALL, "back": back})
        self.assertEqual(vars(Change("flip", SMALL, None)), {"name": "flip", "task": SMALL, "back": None})


class ChangesTest(ChangeCase):
    def test_shift(self):
        for task in tasks(492):
            for number in (Ratio(0), Ratio(1), Ratio(-7, 3), Ratio(10 ** 20, 3)):
                matrix = [[top + fraction(number) * (i == j) for j, top in enumerate(row)]
                          for i, row in enumerate(table(task.matrix))]
                self.check(shift, task, number, matrix=matrix, back=False)

    def test_scale(self):
        for task in tasks(493):
            for number in (Ratio(1), Ratio(-7, 3), Ratio(1, 10 ** 20)):
                matrix = [[top * fraction(number) for top in row] for row in table(task.matrix)]
                found = self.check(scale, task, number, matrix=matrix)
                self.assert_same(found.back.lead(Vector([1] * task.size)), Vector([1] * task.size) * number)

    def test_zero_scale(self):
        for task in tasks(494):
            self.assert_refused(ZeroScale, {}, scale, task, Ratio(0))
            self.assert_refused(ZeroScale, {}, scale, task, Ratio(0, -5))

    def test_turn(self):
        numbers = source(495)
        for task in tasks(495):
            for base in (some_base(numbers, task.size), some_matrix(numbers, task.size, task.size, 10 ** 20)):
                given = table(base)
                images = flipped([slow_solve(given, list(column)) for column in zip(*times(table(task.matrix), given))])
                found = self.check(turn, task, base, matrix=images, side=slow_solve(given, entries(task.side)),
                                   measure=times(times(flipped(given), table(task.measure.matrix)), given))
                x = some_vector(numbers, task.size)
                self.assertEqual(entries(found.back.lead(x)), slow_times(given, entries(x)))

    def test_turn_by_hand(self):
        found = self.check(turn, SMALL, Matrix([[1, 1], [0, 2]]), matrix=[[Fraction(3, 2), Fraction(1, 2)],
                           [Fraction(1, 2), Fraction(7, 2)]], side=[1, 0], measure=[[2, 2], [2, 6]])
        self.assertEqual(str(found.task), "3/2 1/2; 1/2 7/2 | 1 0 | 2 2; 2 6")

    def test_turn_refused(self):
        for size in range(2, 6):
            task = some_task(source(496), size)
            for height, width in [(size, size + 1), (1, size), (size - 1, size), (9, 8)]:
                self.assert_refused(NotSquare, {"height": height, "width": width}, turn, task, Matrix.zero(height, width))
            for other in (1, size - 1, size + 1, 9):
                self.assert_refused(SizeMismatch, {"left": size, "right": other}, turn, task, Matrix.zero(other, other))
                self.assert_refused(SizeMismatch, {"left": size, "right": other}, turn, task, Matrix.identity(other))
            for matrix in (Matrix.zero(size, size), some_singular(source(497), size)):
                self.assert_singular(matrix, turn, task, matrix)

    def test_remeasure(self):
        for task in tasks(498):
            for measure in (Measure.plain(task.size), some_measure(source(498), task.size, 10 ** 9)):
                found = self.check(remeasure, task, measure, measure=table(measure.matrix))
                self.check_changes_nothing(found)
            for other in (1, task.size - 1, task.size + 1, 10):
                self.assert_refused(SizeMismatch, {"left": task.size, "right": other}, remeasure, task,
                                    Measure.plain(other))

    def test_guess(self):
        numbers = source(499)
        for task in tasks(499):
            for vector in (some_vector(numbers, task.size), some_vector(numbers, task.size, 10 ** 20),
                           Vector.zero(task.size)):
                side = minus(entries(task.side), slow_times(table(task.matrix), entries(vector)))
                found = self.check(guess, task, vector, side=side)
                x = some_vector(numbers, task.size)
                self.assert_same(found.back.lead(x), x + vector)
            for other in (1, task.size - 1, task.size + 1, 30):
                self.assert_refused(SizeMismatch, {"left": task.size, "right": other}, guess, task, Vector.zero(other))

    def test_guess_of_the_solution(self):
        solution = inverse(SMALL.matrix) * SMALL.side
        found = guess(SMALL, solution)
        self.assertTrue(found.task.side.is_zero)
        self.assert_same(found.back.lead(Vector.zero(2)), solution)

    def test_ahead(self):
        numbers = source(500)
        for task in tasks(500):
            for poly in (Poly([1]), Poly([-2], 3), Poly([1, 2]), Poly([numbers.randint(-9, 9) for _ in range(20)] + [7]),
                         Poly([10 ** 20, 1, 10 ** 20], 3)):
                value = slow_value(poly, table(task.matrix))
                if slow_rank(value) == task.size:
                    found = self.check(ahead, task, poly, matrix=times(value, table(task.matrix)),
                                       side=slow_times(value, entries(task.side)))
                    self.check_changes_nothing(found)
                else:
                    self.assert_singular(poly(task.matrix), ahead, task, poly)

    def test_ahead_without_an_inverse(self):
        for task in tasks(501):
            self.assert_singular(Matrix.zero(task.size, task.size), ahead, task, Poly([]))
        task = Task(Matrix([[2, 0], [0, 3]]), Vector.zero(2), Measure.plain(2))
        for poly in (Poly([-2, 1]), Poly([-3, 1], 7), Poly([6, -5, 1])):
            self.assert_singular(poly(task.matrix), ahead, task, poly)
        # The matrix itself need not have an inverse.
        task = Task(Matrix([[1, 0], [0, 0]]), Vector([1, 1]), Measure.plain(2))
        self.assertEqual(str(self.check(ahead, task, Poly([2, 1]), matrix=[[3, 0], [0, 0]], side=[3, 2]).task),
                         "3 0; 0 0 | 3 2 | plain")
        self.assert_singular(task.matrix, ahead, task, Poly.x())

    def test_normal(self):
        for task in tasks(502):
            if slow_rank(table(task.matrix)) < task.size:
                self.assert_singular(task.matrix, normal, task)
                self.assert_singular(task.matrix, normal, Task(task.matrix, Vector.zero(task.size), task.measure))
            else:
                adjoint = slow_adjoint(task)
                found = self.check(normal, task, matrix=times(adjoint, table(task.matrix)),
                                   side=slow_times(adjoint, entries(task.side)))
                self.check_changes_nothing(found)
                self.assert_same(task.measure.adjoint(found.task.matrix), found.task.matrix)
                Measure(task.measure.matrix * found.task.matrix)

    def test_flip(self):
        for task in tasks(503):
            found = self.check(flip, task, matrix=slow_adjoint(task), back=False)
            self.assert_same(flip(found.task).task.matrix, task.matrix)
        self.assertEqual(str(flip(SMALL).task), "2 1/2; 2 3 | 1 0 | 2 0; 0 1")
