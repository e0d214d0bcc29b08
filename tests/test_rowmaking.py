"""Point 22: the next row of given rows, and rows that are made one by one."""

import inspect

from lastrows.errors import Empty, ZeroRow
from lastrows.matrices import Matrix
from lastrows.measures import Measure
from lastrows.rowmaking import forgetful_rows, next_row, walk_rows
from lastrows.vectors import Vector
from lastrows.walks import Walk
from tests.support import Case, cycle, entries, slow_next, some_matrix, some_measure, some_vector, source, table

SHIFT = cycle(3)


def samples(seed):
    numbers = source(seed)
    for size in range(2, 6):
        for most in (1, 1, 2, 9):
            for measure in (Measure.plain(size), some_measure(numbers, size)):
                a = some_matrix(numbers, size, size, most)
                yield a, measure, some_vector(numbers, size, most)
                yield a + a.transpose, measure, some_vector(numbers, size, most)


def slow_forgetful(a, measure, start, keep):
    """Returns the vectors of forgetful_rows as fractions."""
    rows = []
    row = entries(start)
    while any(row) and len(rows) < len(start) + 1:
        rows.append(row)
        kept = rows[max(0, len(rows) - keep):]
        row, _ = slow_next(table(a), table(measure.matrix), kept)
    return rows


class NextRowTest(Case):
    def test_empty(self):
        self.assert_refused(Empty, {}, next_row, SHIFT, Measure.plain(3), [])
        self.assert_refused(Empty, {}, next_row, SHIFT, Measure.plain(3), ())

    def test_zero_rows(self):
        one, zero = Vector([1, 2, 3]), Vector.zero(3)
        for rows, index in [([zero], 0), ([one, zero], 1), ([zero, one], 0), ([one, zero, one, zero], 1),
                            ((one, one, zero), 2)]:
            self.assert_refused(ZeroRow, {"index": index}, next_row, SHIFT, Measure.plain(3), rows)

    def test_rows_of_a_walk(self):
        for a, measure, start in samples(220):
            walk = Walk(a, measure, start)
            for m in range(walk.grade):
                wanted = walk.rows[m + 1] if m + 1 < walk.grade else Vector.zero(len(start))
                self.assert_same(next_row(a, measure, list(walk.rows[:m + 1])), wanted)

    def test_rows_that_are_not_of_a_walk(self):
        # Each share is that of `a * last` itself, also where the rows are not orthogonal.
        numbers = source(221)
        for size in range(2, 6):
            for count in (1, 2, 3, 7):
                a, measure = some_matrix(numbers, size, size), some_measure(numbers, size)
                rows = [some_vector(numbers, size) for _ in range(count)]
                wanted, _ = slow_next(table(a), table(measure.matrix), [entries(row) for row in rows])
                self.assertEqual(entries(next_row(a, measure, rows)), wanted)
                self.assert_same(next_row(a, measure, tuple(rows)), next_row(a, measure, rows))

    def test_equal_rows(self):
        row = Vector([1, 1, 0])
        self.assertEqual(str(next_row(SHIFT, Measure.plain(3), [row, row])), "-1 0 1")

    def test_the_list_stays(self):
        rows = [Vector([1, 0, 0]), Vector([0, 1, 0])]
        kept = list(rows)
        next_row(SHIFT, Measure.plain(3), rows)
        self.assertEqual(rows, kept)


class WalkRowsTest(Case):
    def test_many(self):
        for a, measure, start in samples(222):
            self.assertEqual(list(walk_rows(a, measure, start)), list(Walk(a, measure, start).rows))

    def test_a_generator_that_runs_twice(self):
        a, measure, start = SHIFT, Measure.plain(3), Vector([1, 2, 4])
        self.assertTrue(inspect.isgenerator(walk_rows(a, measure, start)))
        wanted = Walk(a, measure, start).rows
        self.assertEqual(tuple(walk_rows(a, measure, start)), wanted)
        self.assertEqual(tuple(walk_rows(a, measure, start)), wanted)

    def test_two_in_turn(self):
        measure, start, other = Measure.plain(3), Vector([1, 2, 4]), Vector([3, -1, 1])
        pairs = list(zip(walk_rows(SHIFT, measure, start), walk_rows(SHIFT, measure, other)))
        wanted = list(zip(Walk(SHIFT, measure, start).rows, Walk(SHIFT, measure, other).rows))
        self.assertEqual(pairs, wanted)
        self.assertEqual(len(pairs), 3)

    def test_zero_start(self):
        for size in range(2, 6):
            self.assertEqual(list(walk_rows(Matrix.identity(size), Measure.plain(size), Vector.zero(size))), [])

    def test_the_end(self):
        self.assertEqual(list(walk_rows(Matrix.identity(4), Measure.plain(4), Vector.unit(4, 2))), [Vector.unit(4, 2)])


class ForgetfulRowsTest(Case):
    def test_many(self):
        sizes = set()
        for a, measure, start in samples(223):
            walk = Walk(a, measure, start)
            for keep in (1, 2, 3, 4, 5, 6, 100):
                found = list(forgetful_rows(a, measure, start, keep=keep))
                self.assertEqual([entries(row) for row in found], slow_forgetful(a, measure, start, keep))
                self.assertEqual(found == list(walk.rows), walk.band < keep)
                sizes.add(len(found) - len(start))
        self.assertIn(1, sizes)
        self.assertEqual(max(sizes), 1)

    def test_around_the_band(self):
        numbers = source(224)
        for size in range(2, 6):
            a, measure, start = some_matrix(numbers, size, size), Measure.plain(size), some_vector(numbers, size)
            walk = Walk(a, measure, start)
            self.assertEqual(walk.band, size - 1)
            for keep in (size, size + 1, 20, 10 ** 30):
                self.assertEqual(tuple(forgetful_rows(a, measure, start, keep=keep)), walk.rows)
            for keep in range(1, size):
                self.assertNotEqual(tuple(forgetful_rows(a, measure, start, keep=keep)), walk.rows)

    def test_the_end_behind_the_size(self):
        found = list(forgetful_rows(SHIFT, Measure.plain(3), Vector([1, 0, 0]), keep=2))
        self.assertEqual([str(row) for row in found], ["1 0 0", "0 1 0", "0 0 1", "1 0 0"])
        found = list(forgetful_rows(SHIFT, Measure.plain(3), Vector([1, 0, 0]), keep=3))
        self.assertEqual([str(row) for row in found], ["1 0 0", "0 1 0", "0 0 1"])

    def test_one_row_alone(self):
        found = list(forgetful_rows(Matrix([[1, 1], [1, 1]]), Measure.plain(2), Vector([2, 0]), keep=1))
        self.assertEqual([str(row) for row in found], ["2 0", "0 2", "2 0"])

    def test_a_zero_vector_within_ends_it(self):
        a = Matrix([[0, 0, 0], [1, 0, 0], [0, 0, 0]])
        found = list(forgetful_rows(a, Measure.plain(3), Vector([1, 0, 0]), keep=1))
        self.assertEqual([str(row) for row in found], ["1 0 0", "0 1 0"])

    def test_zero_start(self):
        for keep in (1, 5, 100):
            self.assertEqual(list(forgetful_rows(SHIFT, Measure.plain(3), Vector.zero(3), keep=keep)), [])

    def test_a_generator_that_runs_twice_and_two_in_turn(self):
        a, measure = Matrix([[1, 2], [3, 4]]), Measure(Matrix([[2, 1], [1, 1]]))
        one = list(forgetful_rows(a, measure, Vector([1, 0]), keep=1))
        two = list(forgetful_rows(a, measure, Vector([1, 5]), keep=2))
        self.assertTrue(inspect.isgenerator(forgetful_rows(a, measure, Vector([1, 0]), keep=1)))
        pairs = list(zip(forgetful_rows(a, measure, Vector([1, 0]), keep=1),
                         forgetful_rows(a, measure, Vector([1, 5]), keep=2)))
        self.assertEqual(pairs, list(zip(one, two)))
        self.assertEqual((len(one), len(two)), (3, 2))
        self.assertEqual(list(forgetful_rows(a, measure, Vector([1, 0]), keep=1)), one)

    def test_keep_is_passed_by_keyword(self):
        with self.assertRaises(TypeError):
            forgetful_rows(SHIFT, Measure.plain(3), Vector([1, 0, 0]), 2)
