"""Points 44 and 45: courses, the course of a task, and a task of a course."""

from fractions import Fraction

from lastrows.courses import Course, course_of, task_of
from lastrows.errors import BadPoly, NotFalling, NotFull, SizeMismatch, SizeOutOfRange, WrongStand, ZeroEnd
from lastrows.matrices import Matrix
from lastrows.measures import Measure
from lastrows.polys import Poly
from lastrows.ratios import Ratio
from lastrows.solvers import LeastSolver
from lastrows.spaces import grade
from lastrows.tasks import Task
from lastrows.vectors import Vector
from lastrows.walks import Walk
from tests.support import (Case, cycle, described, diagonal, fraction, ratio, some_base, some_measure, some_singular,
                           some_task, some_vector, source, table)


def ratios(*numbers):
    return [ratio(Fraction(number)) for number in numbers]


def plain_polys(size):
    """Returns the polynomials (x + 1), (x + 1)^2 and so on."""
    return [Poly([1, 1]) ** k for k in range(1, size + 1)]


def falling(size):
    return [Ratio(1, k + 1) for k in range(size)]


def some_course(numbers, size, most, stands):
    """Returns a course whose curve stands still at the places."""
    polys, curve = [], [Ratio(numbers.randint(1, most), numbers.randint(1, 9))]
    for k in range(1, size + 1):
        end = 0 if k in stands else numbers.choice([-1, 1]) * numbers.randint(1, most)
        tops = [end] + [numbers.randint(-most, most) for _ in range(k - 1)]
        bottom = numbers.randint(1, 4)
        polys.append(Poly(tops + [bottom], bottom))
        if k < size:
            curve.append(curve[-1] if k in stands else curve[-1] * Ratio(numbers.randint(1, 8), 9))
    return Course(polys, curve)


def all_stands(size):
    """Returns all subsets of the places 1 to size - 1."""
    return [[k for k in range(1, size) if number >> k & 1] for number in range(0, 1 << size, 2)]


class CourseTest(Case):
    def test_the_attributes(self):
        for size in range(2, 6):
            polys, curve = plain_polys(size), falling(size)
            for course in (Course(polys, curve), Course(tuple(polys), tuple(curve))):
                self.assertEqual(vars(course), {"polys": tuple(polys), "curve": tuple(curve)})

    def test_lists_that_are_changed_afterwards(self):
        polys, curve = plain_polys(3), falling(3)
        course = Course(polys, curve)
        before = described(course)
        polys[0] = Poly([9])
        curve[0] = Ratio(-9)
        polys.pop()
        self.assertEqual(described(course), before)
        kept, other = plain_polys(3), falling(3)
        Course(kept, other)
        self.assertEqual((kept, other), (plain_polys(3), falling(3)))

    def test_1_size_out_of_range(self):
        for size in (0, 1, 6, 7):
            for curve in (falling(size), falling(3), [], [Ratio(-1)] * size):
                for polys in (plain_polys(size), [Poly([])] * size):
                    self.assert_refused(SizeOutOfRange, {"size": size}, Course, polys, curve)

    def test_2_size_mismatch(self):
        for size in range(2, 6):
            for other in (0, 1, size - 1, size + 1, 9):
                for polys in (plain_polys(size), [Poly([])] * size):
                    for curve in (falling(other), [Ratio(0)] * other):
                        self.assert_refused(SizeMismatch, {"left": size, "right": other}, Course, polys, curve)

    def test_3_bad_poly(self):
        for size in range(2, 6):
            for place in range(1, size + 1):
                for bad in (Poly([]), Poly([1]), Poly([1] * place), Poly([1] * (place + 2)), Poly([1] * place + [2]),
                            Poly([1] * place + [-1]), Poly([1] * (place + 1), 2)):
                    polys = plain_polys(size)
                    polys[place - 1] = bad
                    for curve in (falling(size), [Ratio(0)] * size):
                        self.assert_refused(BadPoly, {"place": place}, Course, polys, curve)

    def test_3_the_least_place(self):
        polys = plain_polys(4)
        polys[1], polys[2] = Poly([2]), Poly([3])
        self.assert_refused(BadPoly, {"place": 2}, Course, polys, falling(4))
        polys = [Poly([1, 1])] * 4
        self.assert_refused(BadPoly, {"place": 2}, Course, polys, falling(4))
        # A zero end comes behind a bad polynomial at an earlier or at the same place.
        self.assert_refused(BadPoly, {"place": 1}, Course, [Poly([2]), Poly([0, 0, 1])], falling(2))
        self.assert_refused(BadPoly, {"place": 2}, Course, [Poly([2, 1]), Poly([0, 0, 2])], falling(2))

    def test_4_zero_end(self):
        for size in range(2, 6):
            for last in (Poly([0] * size + [1]), Poly([0] + [5] * (size - 1) + [1])):
                polys = plain_polys(size)[:-1] + [last]
                for curve in (falling(size), [Ratio(-1)] * size):
                    self.assert_refused(ZeroEnd, {}, Course, polys, curve)

    def test_5_not_falling(self):
        for size in range(2, 6):
            polys = plain_polys(size)
            for place in range(size):
                for bad in [Ratio(0), Ratio(-1), Ratio(-1, 9)] + [Ratio(2)] * (place > 0):
                    curve = falling(size)
                    curve[place] = bad
                    self.assert_refused(NotFalling, {"place": place}, Course, polys, curve)
        # Only just greater than the one before.
        self.assert_refused(NotFalling, {"place": 1}, Course, plain_polys(2), ratios("1", "1000001/1000000"))

    def test_5_wrong_stand(self):
        for size in range(2, 6):
            for place in range(1, size):
                # It stands still where the constant coefficient is not zero.
                curve = falling(size)
                curve[place] = curve[place - 1]
                self.assert_refused(WrongStand, {"place": place}, Course, plain_polys(size), curve)
                # It falls where the constant coefficient is zero.
                polys = plain_polys(size)
                polys[place - 1] = Poly.x() ** place
                self.assert_refused(WrongStand, {"place": place}, Course, polys, falling(size))

    def test_5_place_by_place(self):
        polys = plain_polys(4)
        self.assert_refused(WrongStand, {"place": 1}, Course, polys, ratios(1, 1, 2, 0))
        self.assert_refused(NotFalling, {"place": 1}, Course, polys, ratios(1, 2, 2, 0))
        self.assert_refused(NotFalling, {"place": 2}, Course, polys, ratios(3, 2, 4, 4))
        self.assert_refused(WrongStand, {"place": 2}, Course, polys, ratios(3, 2, 2, 0))
        self.assert_refused(NotFalling, {"place": 0}, Course, polys, ratios(0, 0, 0, 0))
        self.assert_refused(NotFalling, {"place": 0}, Course, polys, ratios(-1, -2, 5, 5))
        # A ratio that rises where the curve has to stand still does not fall.
        polys[0] = Poly.x()
        self.assert_refused(NotFalling, {"place": 1}, Course, polys, ratios(1, 2, 1, 1))
        self.assert_refused(NotFalling, {"place": 1}, Course, polys, ratios(1, 0, 0, 0))

    def test_two_faults_at_once(self):
        zero_end = [Poly([1, 1]), Poly([0, 0, 1])]
        self.assert_refused(SizeOutOfRange, {"size": 1}, Course, [Poly([0, 1])], ratios(-1, -1))
        self.assert_refused(SizeMismatch, {"left": 2, "right": 3}, Course, zero_end, ratios(0, 0, 0))
        self.assert_refused(ZeroEnd, {}, Course, zero_end, ratios(0, 0))
        self.assert_refused(BadPoly, {"place": 2}, Course, [Poly([1, 1]), Poly([0, 1])], ratios(0, 0))

    def test_good_stands(self):
        course = Course([Poly.x(), Poly([0, 3, 1]), Poly([2, 0, 0, 1])], ratios(2, 2, 2))
        self.assertEqual([str(part) for part in course.curve], ["2", "2", "2"])
        course = Course([Poly([5, 1]), Poly([0, 3, 1]), Poly([2, 0, 0, 1])], ratios(2, "1/7", "1/7"))
        self.assertEqual([str(part) for part in course.curve], ["2", "1/7", "1/7"])


class CourseOfTest(Case):
    def test_many(self):
        numbers = source(440)
        for size in range(2, 6):
            for task in (some_task(numbers, size), some_task(numbers, size, 10 ** 20),
                         Task(some_base(numbers, size), some_vector(numbers, size), Measure.plain(size)),
                         Task(cycle(size), Vector.unit(size, 1), Measure.plain(size))):
                if grade(task.matrix, task.side) == size:
                    course = self.assert_told_twice(lambda: course_of(task))
                    self.assertIs(type(course), Course)
                    walk = Walk(task.matrix, task.measure, task.side)
                    self.assertEqual(course.polys, walk.polys[1:])
                    squares = [step.square for step in LeastSolver(task).steps()]
                    self.assertEqual(course.curve, tuple(squares[:-1]))
                    self.assertEqual((len(course.polys), len(course.curve)), (size, size))

    def test_by_hand(self):
        course = course_of(Task.read("2 1; 1 3 | 1 0 | plain"))
        self.assertEqual([str(poly) for poly in course.polys], ["-2 1", "5 -5 1"])
        self.assertEqual([str(square) for square in course.curve], ["1", "1/5"])

    def test_singular_comes_first(self):
        numbers = source(441)
        for size in range(2, 6):
            matrix = some_singular(numbers, size)
            for side in (Vector.zero(size), some_vector(numbers, size), matrix * some_vector(numbers, size)):
                self.assert_singular(matrix, course_of, Task(matrix, side, some_measure(numbers, size)))

    def test_not_full(self):
        for size in range(2, 6):
            measure = some_measure(source(442), size)
            task = Task(cycle(size), Vector.zero(size), measure)
            self.assert_refused(NotFull, {"grade": 0}, course_of, task)
            matrix = diagonal(*range(1, size + 1))
            for many in range(1, size):
                side = Vector([1] * many + [0] * (size - many))
                self.assert_refused(NotFull, {"grade": many}, course_of, Task(matrix, side, measure))
            self.assertEqual(len(course_of(Task(matrix, Vector([1] * size), measure)).polys), size)
            self.assert_refused(NotFull, {"grade": 1}, course_of, Task(Matrix.identity(size), Vector([1] * size), measure))


class TaskOfTest(Case):
    def check(self, course):
        """Checks the task of a course against the numbers of point 45, and that its course is the given one."""
        task = self.assert_told_twice(lambda: task_of(course))
        self.assertIs(type(task), Task)
        polys, size = [Poly([1]), *course.polys], len(course.polys)
        for m in range(size):
            total = polys[m + 1]
            for i in range(m + 1):
                total = total + polys[i] * task.matrix[i, m]
            self.assert_same(Poly.x() * polys[m], total)
            self.assertEqual([fraction(task.matrix[i, m]) for i in range(m + 1, size)], [1, 0, 0, 0][:size - m - 1])
        self.assert_same(task.side, Vector.unit(size, 0))
        curve = [fraction(part) for part in course.curve]
        weights = [curve[0]]
        for k in range(1, size):
            end = fraction(polys[k][0])
            weights.append(end ** 2 / (1 / curve[k] - 1 / curve[k - 1]) if end != 0 else 1)
        self.assertEqual(table(task.measure.matrix),
                         [[weights[i] if i == j else 0 for j in range(size)] for i in range(size)])
        found = course_of(task)
        self.assertEqual((found.polys, found.curve), (course.polys, course.curve))
        return task

    def test_the_example_of_the_document(self):
        task = self.check(Course([Poly([-1, 1]), Poly([1, 0, 1])], [Ratio(1), Ratio(1, 2)]))
        self.assertEqual(str(task), "1 -2; 1 -1 | 1 0 | plain")

    def test_there_and_back_with_all_stands(self):
        numbers = source(443)
        for size in range(2, 6):
            for stands in all_stands(size):
                for most in (1, 9):
                    self.check(some_course(numbers, size, most, stands))

    def test_large_numbers(self):
        numbers = source(444)
        for size in range(2, 6):
            self.check(some_course(numbers, size, 10 ** 20, []))
            self.check(some_course(numbers, size, 10 ** 20, [1]))

    def test_the_course_of_a_task_has_a_task(self):
        numbers = source(445)
        for size in range(2, 6):
            for task in (some_task(numbers, size), some_task(numbers, size, 10 ** 6),
                         Task(cycle(size), Vector.unit(size, 0), Measure.plain(size))):
                if grade(task.matrix, task.side) == size:
                    self.check(course_of(task))

    def test_a_curve_that_never_falls(self):
        task = self.check(Course([Poly.x(), Poly.x() ** 2, Poly([-1, 0, 0, 1])], [Ratio(1)] * 3))
        self.assertEqual(str(task), "0 0 1; 1 0 0; 0 1 0 | 1 0 0 | plain")
