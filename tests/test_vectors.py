"""Points 6 and 8: vectors and their written form."""

from math import gcd

from lastrows.errors import BadNumber, Empty, SizeMismatch, ZeroBottom
from lastrows.matrices import Matrix
from lastrows.ratios import Ratio
from lastrows.vectors import Vector
from tests.support import Case, entries, fraction, ratio, some_vector, source


class VectorTest(Case):
    def assert_parts(self, vector, tops, bottom):
        self.assertEqual((vector.tops, vector.bottom), (tops, bottom))

    def test_lowest_terms(self):
        self.assert_parts(Vector([2, 4, 6], 4), (1, 2, 3), 2)
        self.assert_parts(Vector([2, 4, 6], -4), (-1, -2, -3), 2)
        self.assert_parts(Vector([2, 4, 6]), (2, 4, 6), 1)
        self.assert_parts(Vector([0, 0, 9], 6), (0, 0, 3), 2)
        self.assert_parts(Vector([4, 6], 9), (4, 6), 9)
        self.assert_parts(Vector((1, 2), -1), (-1, -2), 1)

    def test_zero_vector(self):
        for bottom in (1, -1, 6, -6):
            self.assert_parts(Vector([0, 0], bottom), (0, 0), 1)
        self.assert_parts(Vector.zero(3), (0, 0, 0), 1)

    def test_lists_are_copied(self):
        tops = [1, 2]
        vector = Vector(tops, 3)
        tops[0] = 7
        tops.append(8)
        self.assert_parts(vector, (1, 2), 3)
        self.assertIs(type(vector.tops), tuple)
        ratios = [Ratio(1), Ratio(2)]
        vector = Vector.of(ratios)
        ratios.pop()
        self.assert_parts(vector, (1, 2), 1)

    def test_checks_in_their_order(self):
        self.assert_refused(Empty, {}, Vector, [])
        self.assert_refused(Empty, {}, Vector, (), 0)
        self.assert_refused(ZeroBottom, {}, Vector, [1], 0)
        self.assert_refused(ZeroBottom, {}, Vector, [0, 0], 0)

    def test_length_and_entries(self):
        vector = Vector([2, -3, 0], 6)
        self.assertEqual(len(vector), 3)
        self.assertEqual([str(vector[k]) for k in range(3)], ["1/3", "-1/2", "0"])
        self.assertIs(type(vector[0]), Ratio)

    def test_arithmetic_against_fractions(self):
        numbers = source(6)
        for _ in range(150):
            size = numbers.randint(1, 6)
            most = numbers.choice([3, 10 ** 20])
            v, w = some_vector(numbers, size, most), some_vector(numbers, size, most)
            r = Ratio(numbers.randint(-9, 9), numbers.randint(1, 9))
            k = numbers.randint(-9, 9)
            x, y = entries(v), entries(w)
            self.assertEqual(entries(v + w), [a + b for a, b in zip(x, y)])
            self.assertEqual(entries(v - w), [a - b for a, b in zip(x, y)])
            self.assertEqual(entries(-v), [-a for a in x])
            self.assertEqual(fraction(v.dot(w)), sum(a * b for a, b in zip(x, y)))
            for found, factor in [(v * r, fraction(r)), (r * v, fraction(r)), (v * k, k), (k * v, k)]:
                self.assertEqual(entries(found), [a * factor for a in x])
            for found in (v + w, v - w, -v, v * r, k * v):
                self.assertEqual(gcd(found.bottom, *found.tops), 1)
                self.assertGreater(found.bottom, 0)
                self.assert_made_anew(found)
            self.assertEqual((entries(v), entries(w)), (x, y))
            self.assertIs(v.is_zero, not any(x))

    def test_size_mismatch(self):
        v, w = Vector([1, 2]), Vector([1, 2, 3])
        for call in (lambda: v + w, lambda: v - w, lambda: v.dot(w)):
            self.assert_refused(SizeMismatch, {"left": 2, "right": 3}, call)
        for call in (lambda: w + v, lambda: w - v, lambda: w.dot(v)):
            self.assert_refused(SizeMismatch, {"left": 3, "right": 2}, call)

    def test_multiples_by_zero_and_one(self):
        vector = Vector([1, -2], 3)
        for zero in (0, Ratio(0)):
            self.assert_parts(vector * zero, (0, 0), 1)
            self.assert_parts(zero * vector, (0, 0), 1)
        for one in (1, Ratio(1)):
            self.assert_same(vector * one, vector)
            self.assert_same(one * vector, vector)

    def test_equality(self):
        self.assert_same(Vector([1, 2], 2), Vector([2, 4], 4))
        self.assert_other(Vector([1, 2]), Vector([1, 2], 3))
        self.assert_other(Vector([1, 2]), Vector([2, 1]))
        self.assert_other(Vector([0]), Vector([0, 0]))
        for other in (1, "1", None, [1], (1,), Ratio(1), Matrix([[1]])):
            self.assert_other(Vector([1]), other)

    def test_is_zero(self):
        self.assertIs(Vector([0, 0], 3).is_zero, True)
        self.assertIs(Vector([0, 1], 3).is_zero, False)
        self.assertIs(Vector([-1, 1]).is_zero, False)

    def test_unit_and_zero(self):
        for size in (1, 2, 5, 30):
            self.assert_parts(Vector.zero(size), (0,) * size, 1)
            for place in range(size):
                self.assertEqual(Vector.unit(size, place).tops, tuple(int(k == place) for k in range(size)))

    def test_of_ratios(self):
        self.assert_parts(Vector.of([Ratio(1, 6), Ratio(-1, 4), Ratio(0)]), (2, -3, 0), 12)
        self.assert_parts(Vector.of((Ratio(3),)), (3,), 1)
        self.assert_refused(Empty, {}, Vector.of, [])
        self.assert_refused(Empty, {}, Vector.of, ())
        numbers = [fraction(Ratio(k * k - 5, k + 1)) for k in range(30)]
        self.assertEqual(entries(Vector.of([ratio(number) for number in numbers])), numbers)


class WrittenVectorTest(Case):
    def test_there_and_back(self):
        self.assert_form(Vector([2, -3, 0], 6), "1/3 -1/2 0")
        self.assert_form(Vector([0]), "0")
        self.assert_form(Vector([0, 0]), "0 0")
        self.assert_form(Vector([-7]), "-7")
        numbers = source(8)
        for _ in range(50):
            vector = some_vector(numbers, numbers.randint(1, 30), 10 ** 20)
            self.assert_form(vector, " ".join(str(number) for number in entries(vector)))

    def test_empty_words(self):
        for text in ("", " ", "  ", " 1", "1 ", "1  2", "1 2 ", " 1 2", "1  x"):
            self.assert_refused(BadNumber, {"text": ""}, Vector.read, text)

    def test_the_leftmost_bad_word(self):
        for text, word in [("1 x y", "x"), ("x  1", "x"), ("1 2/4 ", "2/4"), ("1 2 -0", "-0"), ("1; 2", "1;"),
                           ("long 1", "long"), ("1 " + "7" * 401 + " x", "7" * 401)]:
            self.assert_refused(BadNumber, {"text": word}, Vector.read, text)

    def test_long_entries(self):
        over, within = 10 ** 400, 10 ** 400 - 1
        self.assertEqual(str(Vector([over, 1, -over, within])), f"long 1 long {within}")
        self.assertEqual(str(Vector([over, over // 10, 1], over)), "1 1/10 long")
        self.assertEqual(str(Vector([3 ** 20000, 6], 2)), "long 3")
