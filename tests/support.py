"""What several tests share: independent arithmetic in Python's own fractions, and checks of raised errors."""

import random
import unittest
from fractions import Fraction

from lastrows.errors import LastrowsError, Singular
from lastrows.inverses import determinant
from lastrows.matrices import Matrix
from lastrows.measures import Measure
from lastrows.ratios import Ratio
from lastrows.tasks import Task
from lastrows.vectors import Vector


class Case(unittest.TestCase):
    """A test case that knows the errors of the package and prints the package's values in its messages."""

    def assert_refused(self, error, told, call, *args, **more):
        """Checks the class, the attributes and the word of the error that a call raises, in two calls alike."""
        caught = [self.caught(error, call, *args, **more) for _ in range(2)]
        for one in caught:
            self.assertEqual({**told, "word": one.word}, vars(one))
        return caught[0]

    def caught(self, error, call, *args, **more):
        with self.assertRaises(LastrowsError) as context:
            call(*args, **more)
        self.assertIs(type(context.exception), error)
        return context.exception

    def assert_same(self, left, right):
        """Checks that two values of the package are equal in both directions, and not unequal."""
        self.assertTrue(left == right, f"{left} == {right}")
        self.assertTrue(right == left, f"{right} == {left}")
        self.assertFalse(left != right, f"{left} != {right}")

    def assert_other(self, left, right):
        self.assertFalse(left == right, f"{left} == {right}")
        self.assertTrue(left != right, f"{left} != {right}")

    def assert_form(self, thing, text):
        """Checks the written form of a value, and that it is read back as this value."""
        self.assertEqual(str(thing), text)
        self.assert_same(type(thing).read(text), thing)

    def assert_told_twice(self, call):
        """Checks that two calls give equal things, down to the attributes of objects, and returns the first one."""
        first = call()
        self.assertEqual(described(first), described(call()))
        return first

    def assert_singular(self, matrix, call, *args, **more):
        """Checks that a call raises Singular with a witness that the matrix sends to zero."""
        error = self.caught(Singular, call, *args, **more)
        self.assertFalse(error.witness.is_zero)
        self.assert_same(matrix * error.witness, Vector.zero(matrix.width))
        self.assertEqual(described(self.caught(Singular, call, *args, **more)), described(error))

    def assert_made_anew(self, thing):
        """Checks that a value with tops and a bottom is equal to the one that is made from them."""
        self.assert_same(type(thing)(thing.tops, thing.bottom), thing)


def described(thing):
    """Returns an object as nested tuples of the names of its class, its bases and its attributes; no list is let pass."""
    if isinstance(thing, tuple):
        return tuple(described(part) for part in thing)
    if hasattr(thing, "__dict__"):
        return type(thing).__name__, tuple((name, described(part)) for name, part in sorted(vars(thing).items()))
    if thing is not None and not isinstance(thing, (int, str)):
        raise AssertionError(f"neither a plain value nor an object of the package: {thing!r}")
    return thing


def fraction(ratio):
    return Fraction(ratio.top, ratio.bottom)


def ratio(number):
    number = Fraction(number)
    return Ratio(number.numerator, number.denominator)


def entries(vector):
    return [fraction(vector[k]) for k in range(len(vector))]


def table(matrix):
    return [[fraction(matrix[i, j]) for j in range(matrix.width)] for i in range(matrix.height)]


def vector_of(numbers):
    return Vector.of([ratio(number) for number in numbers])


def source(seed):
    """Returns a source of integers and fractions that gives the same ones in each run."""
    return random.Random(seed)


def some_vector(numbers, size, most=9):
    return Vector([numbers.randint(-most, most) for _ in range(size)], numbers.randint(1, 4))


def some_matrix(numbers, height, width, most=9):
    rows = [[numbers.randint(-most, most) for _ in range(width)] for _ in range(height)]
    return Matrix(rows, numbers.randint(1, 4))


def some_base(numbers, size, most=3):
    """Returns a matrix that has an inverse."""
    while True:
        matrix = some_matrix(numbers, size, size, most)
        if not determinant(matrix).is_zero:
            return matrix


def some_task(numbers, size, most=4):
    """Returns a task whose matrix has an inverse, with a measure that is not plain."""
    return Task(some_base(numbers, size, most), some_vector(numbers, size), some_measure(numbers, size))


def some_singular(numbers, size):
    """Returns a matrix that has no inverse and is not zero."""
    while True:
        matrix = some_matrix(numbers, size, size - 1) * some_matrix(numbers, size - 1, size)
        if not matrix.is_zero:
            return matrix


def some_measure(numbers, size, most=4):
    """Returns the measure of a matrix that has an inverse, multiplied by its transpose."""
    base = some_base(numbers, size, most)
    return Measure(base.transpose * base)


def diagonal(*integers):
    return Matrix.diagonal(*[Ratio(k) for k in integers])


def cycle(size):
    """Returns the matrix that sends each unit vector to the next one, and the last one to the first one."""
    return Matrix([[1 if i == (j + 1) % size else 0 for j in range(size)] for i in range(size)])


def lower_shift(size):
    """Returns the matrix that sends each unit vector to the next one, and the last one to zero."""
    return Matrix([[1 if i == j + 1 else 0 for j in range(size)] for i in range(size)])


def companion(poly):
    """Returns the matrix that sends each unit vector to the next one and has the monic polynomial as its minimal one."""
    size = poly.degree
    ends = Matrix.columns([Vector.zero(size)] * (size - 1) + [Vector.of([-poly[k] for k in range(size)])])
    return lower_shift(size) + ends


def some_cyclic(numbers, size, most=9):
    while True:
        matrix = some_matrix(numbers, size, size, most)
        if is_cyclic(matrix):
            return matrix


def some_full(numbers, a, most=9):
    """Returns a full start of a cyclic matrix."""
    while True:
        start = some_vector(numbers, a.height, most)
        if is_full(a, start):
            return start


def is_cyclic(a):
    """Tells by the powers of the matrix, each taken as one long row, whether its minimal polynomial is long."""
    return slow_degree(a) == a.height


def slow_degree(a):
    """Returns the degree of the minimal polynomial by the powers of the matrix, each taken as one long row."""
    rows = [sum(table(a ** k), []) for k in range(a.height + 1)]
    return slow_rank(rows)


def space(a, start, order):
    """Returns the start, `a` times the start and so on as rows of fractions."""
    rows = [entries(start)]
    while len(rows) < order:
        rows.append(slow_times(table(a), rows[-1]))
    return rows[:order]


def is_full(a, start):
    return slow_rank(space(a, start, a.height)) == a.height


def lies_in_space(a, vector, start, order):
    """Tells whether a vector lies in the space of the order of a start."""
    if order == 0:
        return vector.is_zero
    rows = space(a, start, order)
    return slow_rank(rows + [entries(vector)]) == slow_rank(rows)


def slow_times(rows, vector):
    return [sum((one * two for one, two in zip(row, vector)), Fraction(0)) for row in rows]


def slow_dot(weights, u, v):
    """Returns the dot of two lists of fractions in the measure of a table."""
    return sum((u[i] * weights[i][j] * v[j] for i in range(len(u)) for j in range(len(v))), Fraction(0))


def slow_next(a, weights, rows):
    """Returns the next row of rows of fractions, and the shares of these rows, by the sums of point 20."""
    step = slow_times(a, rows[-1])
    shares = [slow_dot(weights, step, row) / slow_dot(weights, row, row) for row in rows]
    rest = [step[k] - sum(share * row[k] for share, row in zip(shares, rows)) for k in range(len(step))]
    return rest, shares


def slow_walk(a, measure, start):
    """Returns the rows of a walk and their shares as lists of fractions."""
    rows, shares = [], []
    row = entries(start)
    while any(row):
        rows.append(row)
        row, told = slow_next(table(a), table(measure.matrix), rows)
        shares.append(told)
    return rows, shares


def slow_band(shares):
    """Returns the least s for which all shares more than s places before the row are zero."""
    band = 0
    while any(any(told[:max(0, m - band)]) for m, told in enumerate(shares)):
        band += 1
    return band


def slow_rank(rows):
    """Returns the rank of rows of fractions, by elimination as it is done by hand."""
    rows = [list(row) for row in rows]
    rank = 0
    for column in range(len(rows[0])):
        lead = next((row for row in rows[rank:] if row[column] != 0), None)
        if lead is None:
            continue
        rows.remove(lead)
        rows.insert(rank, lead)
        for k in range(rank + 1, len(rows)):
            share = rows[k][column] / lead[column]
            rows[k] = [one - share * two for one, two in zip(rows[k], lead)]
        rank += 1
    return rank


def slow_determinant(rows):
    """Returns the determinant of rows of fractions by the first row."""
    if not rows:
        return Fraction(1)
    total = Fraction(0)
    for column, top in enumerate(rows[0]):
        if top != 0:
            minor = [row[:column] + row[column + 1:] for row in rows[1:]]
            total += (-1) ** column * top * slow_determinant(minor)
    return total


def slow_solve(rows, wanted):
    """Returns the one solution of a square system of fractions, or None if there is none or more than one."""
    lines = [list(row) + [end] for row, end in zip(rows, wanted)]
    for column in range(len(lines)):
        lead = next((line for line in lines[column:] if line[column] != 0), None)
        if lead is None:
            return None
        lines.remove(lead)
        lines.insert(column, [number / lead[column] for number in lead])
        for k, line in enumerate(lines):
            if k != column:
                lines[k] = [one - line[column] * two for one, two in zip(line, lines[column])]
    return [line[-1] for line in lines]


def minus(left, right):
    return [one - two for one, two in zip(left, right)]


def plus(left, right, factor=1):
    """Returns the left row plus the factor times the right row."""
    return [one + factor * two for one, two in zip(left, right)]


def flipped(rows):
    return [list(column) for column in zip(*rows)]
