"""What several tests share: independent arithmetic in Python's own fractions, and checks of raised errors."""

import random
import unittest
from fractions import Fraction

from lastrows.errors import LastrowsError
from lastrows.matrices import Matrix
from lastrows.ratios import Ratio
from lastrows.vectors import Vector


class Case(unittest.TestCase):
    """A test case that knows the errors of the package and prints the package's values in its messages."""

    def assert_refused(self, error, told, call, *args, **more):
        """Checks the class, the attributes and the word of the error that a call raises, in two calls alike."""
        caught = [self.caught(error, call, *args, **more) for _ in range(2)]
        for one in caught:
            self.assertEqual({**told, "word": one.word}, vars(one))
        return caught[0]

    def caught(self, error, call, *args, **more):
        with self.assertRaises(LastrowsError) as context:
            call(*args, **more)
        self.assertIs(type(context.exception), error)
        return context.exception

    def assert_same(self, left, right):
        """Checks that two values of the package are equal in both directions, and not unequal."""
        self.assertTrue(left == right, f"{left} == {right}")
        self.assertTrue(right == left, f"{right} == {left}")
        self.assertFalse(left != right, f"{left} != {right}")

    def assert_other(self, left, right):
        self.assertFalse(left == right, f"{left} == {right}")
        self.assertTrue(left != right, f"{left} != {right}")

    def assert_form(self, thing, text):
        """Checks the written form of a value, and that it is read back as this value."""
        self.assertEqual(str(thing), text)
        self.assert_same(type(thing).read(text), thing)

    def assert_made_anew(self, thing):
        """Checks that a value with tops and a bottom is equal to the one that is made from them."""
        self.assert_same(type(thing)(thing.tops, thing.bottom), thing)


def fraction(ratio):
    return Fraction(ratio.top, ratio.bottom)


def ratio(number):
    number = Fraction(number)
    return Ratio(number.numerator, number.denominator)


def entries(vector):
    return [fraction(vector[k]) for k in range(len(vector))]


def table(matrix):
    return [[fraction(matrix[i, j]) for j in range(matrix.width)] for i in range(matrix.height)]


def vector_of(numbers):
    return Vector.of([ratio(number) for number in numbers])


def source(seed):
    """Returns a source of integers and fractions that gives the same ones in each run."""
    return random.Random(seed)


def some_vector(numbers, size, most=9):
    return Vector([numbers.randint(-most, most) for _ in range(size)], numbers.randint(1, 4))


def some_matrix(numbers, height, width, most=9):
    rows = [[numbers.randint(-most, most) for _ in range(width)] for _ in range(height)]
    return Matrix(rows, numbers.randint(1, 4))


def slow_rank(rows):
    """Returns the rank of rows of fractions, by elimination as it is done by hand."""
    rows = [list(row) for row in rows]
    rank = 0
    for column in range(len(rows[0])):
        lead = next((row for row in rows[rank:] if row[column] != 0), None)
        if lead is None:
            continue
        rows.remove(lead)
        rows.insert(rank, lead)
        for k in range(rank + 1, len(rows)):
            share = rows[k][column] / lead[column]
            rows[k] = [one - share * two for one, two in zip(rows[k], lead)]
        rank += 1
    return rank


def slow_determinant(rows):
    """Returns the determinant of rows of fractions by the first row."""
    if not rows:
        return Fraction(1)
    total = Fraction(0)
    for column, top in enumerate(rows[0]):
        if top != 0:
            minor = [row[:column] + row[column + 1:] for row in rows[1:]]
            total += (-1) ** column * top * slow_determinant(minor)
    return total
