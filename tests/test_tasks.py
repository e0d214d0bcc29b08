"""Points 36 and 51: tasks, their written forms, and how these are read."""

from lastrows.errors import (BadNumber, BadText, NotPositive, NotSquare, NotSymmetric, RaggedRows, SizeMismatch,
                             SizeOutOfRange)
from lastrows.matrices import Matrix
from lastrows.measures import Measure
from lastrows.ratios import Ratio
from lastrows.tasks import Task
from lastrows.vectors import Vector
from tests.support import Case, some_matrix, some_measure, some_vector, source

LONG = "1" * 401


class TaskTest(Case):
    def test_the_attributes(self):
        matrix, side, measure = Matrix([[1, 2], [3, 4]]), Vector([1, 0]), Measure.plain(2)
        task = Task(matrix, side, measure)
        self.assertEqual(vars(task), {"matrix": matrix, "side": side, "measure": measure, "size": 2})
        numbers = source(360)
        for size in range(2, 6):
            self.assertEqual(Task(some_matrix(numbers, size, size), some_vector(numbers, size),
                                  some_measure(numbers, size)).size, size)
        # A matrix without an inverse and a side of zeros are a task, too.
        self.assertEqual(Task(Matrix.zero(3, 3), Vector.zero(3), Measure.plain(3)).size, 3)

    def test_not_square(self):
        for height, width in [(1, 2), (2, 3), (6, 7), (3, 1)]:
            self.assert_refused(NotSquare, {"height": height, "width": width}, Task, Matrix.zero(height, width),
                                Vector.zero(9), Measure.plain(8))

    def test_size_out_of_range(self):
        for size in (1, 6, 7, 30):
            for length in (size, 3):
                self.assert_refused(SizeOutOfRange, {"size": size}, Task, Matrix.identity(size), Vector.zero(length),
                                    Measure.plain(2))

    def test_size_mismatch(self):
        for size in range(2, 6):
            for other in (1, size - 1, size + 1, 10):
                self.assert_refused(SizeMismatch, {"left": size, "right": other}, Task, Matrix.identity(size),
                                    Vector.zero(other), Measure.plain(size))
                self.assert_refused(SizeMismatch, {"left": size, "right": other}, Task, Matrix.identity(size),
                                    Vector.zero(size), Measure.plain(other))
                # The side comes first.
                self.assert_refused(SizeMismatch, {"left": size, "right": other}, Task, Matrix.identity(size),
                                    Vector.zero(other), Measure.plain(other + size))


class FormTest(Case):
    def check(self, task, text):
        """Checks the written form, and that it is read back as a task with the same attributes."""
        self.assertEqual(str(task), text)
        self.assertEqual(vars(Task.read(text)), vars(task))
        self.assertEqual(str(Task.read(text)), text)

    def test_there_and_back(self):
        matrix, side = Matrix([[1, -2], [3, 4]], 2), Vector([1, 0], 3)
        self.check(Task(matrix, side, Measure(Matrix([[2, 1], [1, 3]], 5))),
                   "1/2 -1; 3/2 2 | 1/3 0 | 2/5 1/5; 1/5 3/5")
        self.check(Task(matrix, side, Measure.plain(2)), "1/2 -1; 3/2 2 | 1/3 0 | plain")
        self.check(Task(matrix, side, Measure(Matrix([[3, 0], [0, 3]], 3))), "1/2 -1; 3/2 2 | 1/3 0 | plain")
        self.check(Task(matrix, side, Measure.weights(Ratio(2), Ratio(2))), "1/2 -1; 3/2 2 | 1/3 0 | 2 0; 0 2")

    def test_many(self):
        numbers = source(361)
        for size in range(2, 6):
            for most in (1, 9, 10 ** 20):
                matrix, side = some_matrix(numbers, size, size, most), some_vector(numbers, size, most)
                measure = some_measure(numbers, size, min(most, 10 ** 19))
                self.check(Task(matrix, side, measure), f"{matrix} | {side} | {measure.matrix}")
                self.check(Task(matrix, side, Measure.plain(size)), f"{matrix} | {side} | plain")

    def test_a_plain_measure_that_is_written_out(self):
        task = Task.read("2 1; 1 3 | 1 0 | 1 0; 0 1")
        self.assert_same(task.measure, Measure.plain(2))
        self.assertEqual(str(task), "2 1; 1 3 | 1 0 | plain")

    def test_long_numbers(self):
        most = 10 ** 400 - 1
        task = Task(Matrix([[most, 1], [0, -most]]), Vector([1, most], most), Measure.weights(Ratio(most), Ratio(1)))
        self.check(task, f"{most} 1; 0 -{most} | 1/{most} 1 | {most} 0; 0 1")
        task = Task(Matrix([[most + 1, 1], [0, 1]]), Vector([1, -1], most + 1),
                    Measure.weights(Ratio(1), Ratio(10 ** 5000)))
        self.assertEqual(str(task), "long 1; 0 1 | long long | 1 0; 0 long")

    def test_large_sizes_are_read_and_refused(self):
        for size in (1, 6, 30):
            matrix, side = Matrix.identity(size), Vector.zero(size)
            self.assert_refused(SizeOutOfRange, {"size": size}, Task.read, f"{matrix} | {side} | plain")
        self.assert_refused(NotSquare, {"height": 6000, "width": 1}, Task.read, "; ".join(["1"] * 6000) + " | 1 | plain")


class RefusedTest(Case):
    def test_other_than_three_parts(self):
        for text in ("", "plain", "1 0; 0 1", "1 0; 0 1 | 1 0", "1 0; 0 1 | 1 0 | plain | plain", "1 0; 0 1|1 0|plain",
                     "1 0; 0 1 | 1 0 |plain", "a | b", "a | b | c | d", " | ", " | | ", "| | |", "1 | | 2"):
            self.assert_refused(BadText, {"text": text}, Task.read, text)

    def test_marks_that_would_share_a_space(self):
        # The second bar belongs to the next part.
        self.assert_refused(BadNumber, {"text": "|"}, Task.read, "1 0; 0 1 | | 1 0 | plain")
        self.assert_refused(BadNumber, {"text": "|"}, Task.read, "1 0; 0 1 | 1 0 | | plain")
        self.assert_refused(BadText, {"text": "1 0; 0 1 | | plain"}, Task.read, "1 0; 0 1 | | plain")

    def test_bad_words_of_the_parts_from_left_to_right(self):
        for text, word in [
            ("x 0; 0 y | z | w", "x"),
            ("1 0; 0 y | z | w", "y"),
            ("1 0; 0 1 | z | w", "z"),
            ("1 0; 0 1 | 1 0 | w", "w"),
            ("1 0; 0 1 | 1 0 | Plain", "Plain"),
            ("1 0; 0 1 | 1 0 | plain ", "plain"),
            ("1 0; 0 1 | 1 0 |  plain", ""),
            ("1 0; 0 1 |  1 0 | plain", ""),
            ("1 0; 0 1 | 1  0 | plain", ""),
            ("1 0;0 1 | 1 0 | plain", "0;0"),
            ("1 0;  0 1 | 1 0 | plain", ""),
            ("1 0; 0 1 | plain | plain", "plain"),
            ("plain | 1 0 | plain", "plain"),
            (" 1 0; 0 1 | 1 0 | plain", ""),
            ("1 0; 0 2/4 | 1 0 | plain", "2/4"),
            ("1 0; 0 1 | 1 long | plain", "long"),
            ("1 0; 0 1 | 1 0 | 1 0; 0 +1", "+1"),
            (" |  | ", ""),
        ]:
            self.assert_refused(BadNumber, {"text": word}, Task.read, text)

    def test_numbers_of_more_than_400_digits(self):
        for text in (f"1 {LONG}; 0 1 | 1 0 | plain", f"1 0; 0 1 | 1 {LONG} | plain", f"1 0; 0 1 | 1 0 | {LONG} 0; 0 1"):
            self.assert_refused(BadNumber, {"text": LONG}, Task.read, text)
        self.assert_refused(BadNumber, {"text": f"-1/{LONG}"}, Task.read, f"1 0; 0 -1/{LONG} | 1 0 | plain")
        word = "7" * 15000
        self.assert_refused(BadNumber, {"text": word}, Task.read, f"1 0; 0 1 | 1 {word} | plain")

    def test_rows_of_the_matrix(self):
        self.assert_refused(RaggedRows, {"index": 1}, Task.read, "1 0; 1 | 1 0 | plain")
        # Bad words in any row of the matrix come ahead of its form, and its form ahead of the side.
        self.assert_refused(BadNumber, {"text": "x"}, Task.read, "1 0; 1; x | 1 0 | plain")
        self.assert_refused(RaggedRows, {"index": 2}, Task.read, "1 0; 0 1; 1 | x | w")

    def test_the_measure(self):
        self.assert_refused(RaggedRows, {"index": 1}, Task.read, "1 0; 0 1 | 1 0 | 1 0; 1")
        self.assert_refused(NotSquare, {"height": 1, "width": 2}, Task.read, "1 0; 0 1 | 1 0 | 1 0")
        self.assert_refused(NotSymmetric, {"first": 0, "second": 1}, Task.read, "1 0; 0 1 | 1 0 | 1 2; 3 1")
        error = self.caught(NotPositive, Task.read, "1 0; 0 1 | 1 0 | 1 2; 2 1")
        self.assertNotEqual(error.witness.dot(Matrix([[1, 2], [2, 1]]) * error.witness).sign, 1)
        self.assert_same(self.caught(NotPositive, Task.read, "1 0; 0 1 | 1 0 | 1 2; 2 1").witness, error.witness)

    def test_errors_of_a_part_come_before_those_of_the_task(self):
        self.assert_refused(NotSymmetric, {"first": 0, "second": 1}, Task.read, "1 0 | 1 0 0 | 1 2; 3 1")
        self.assert_refused(NotSquare, {"height": 1, "width": 3}, Task.read, "1 | 1 0 0 | 1 2 3")
        self.assert_refused(BadNumber, {"text": "z"}, Task.read, "1 0 | z | plain")

    def test_errors_of_the_task(self):
        self.assert_refused(NotSquare, {"height": 1, "width": 2}, Task.read, "1 0 | 1 | plain")
        self.assert_refused(NotSquare, {"height": 1, "width": 2}, Task.read, "1 0 | 1 | 1")
        self.assert_refused(SizeOutOfRange, {"size": 1}, Task.read, "1 | 1 | plain")
        self.assert_refused(SizeOutOfRange, {"size": 1}, Task.read, "1 | 1 0 | 2 1; 1 2")
        self.assert_refused(SizeMismatch, {"left": 2, "right": 3}, Task.read, "1 0; 0 1 | 1 0 0 | plain")
        self.assert_refused(SizeMismatch, {"left": 2, "right": 3}, Task.read, "1 0; 0 1 | 1 0 0 | 1")
        self.assert_refused(SizeMismatch, {"left": 2, "right": 1}, Task.read, "1 0; 0 1 | 1 0 | 1")

    def test_no_part_can_be_empty(self):
        for text in (" |  | plain", "1 0; 0 1 |  | plain", "1 0; 0 1 | 1 0 | "):
            self.assert_refused(BadNumber, {"text": ""}, Task.read, text)
