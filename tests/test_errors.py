"""The table of the errors."""

import inspect

from lastrows import errors
from lastrows.vectors import Vector
from tests.support import Case

TABLE = """
LastrowsError() error | ZeroBottom() bottom
BadNumber(text) number | BadText(text) text
Empty() empty | RaggedRows(index) ragged
SizeMismatch(left, right) sizes | NotSquare(height, width) square
SizeOutOfRange(size) size | Singular(witness) singular
NotSymmetric(first, second) symmetric | NotPositive(witness) positive
ZeroPoly() poly | ZeroRow(index) row
NotCyclic(found) cyclic | DegreeTooLarge(found) degree
NotSelfAdjoint(first, second) adjoint | BadWay(way) way
BadPoly(place) monic | ZeroEnd() end
NotFalling(place) falling | WrongStand(place) stand
NotFull(grade) full | ZeroPartner() partner
ZeroScale() scale | BadChange(name) change
TooLong(part) long | NothingToUndo() undo
NoWayBack(place) back | BadCommand(text) command
NoTask() task
"""


def listed():
    """Returns name, attributes and word of each class of the table but the one with a given word."""
    found = []
    for cell in TABLE.replace("\n", "|").split("|"):
        if cell.strip():
            head, _, word = cell.strip().rpartition(" ")
            name, _, attributes = head.rstrip(")").partition("(")
            found.append((name, [part for part in attributes.split(", ") if part], word))
    return found


class ErrorsTest(Case):
    def test_the_table_is_the_whole_file(self):
        names = [name for name, thing in vars(errors).items() if inspect.isclass(thing)]
        self.assertEqual(sorted(names), sorted([name for name, _, _ in listed()] + ["LineRefused"]))
        self.assertEqual(len(names), 32)

    def test_attributes_by_position_and_word(self):
        for name, attributes, word in listed():
            given = [(name, place) for place in range(len(attributes))]
            with self.subTest(name):
                error = getattr(errors, name)(*given)
                self.assertEqual(vars(error), {**dict(zip(attributes, given)), "word": word})

    def test_line_refused_has_the_given_word(self):
        error = errors.LineRefused(7, "number")
        self.assertEqual(vars(error), {"line": 7, "word": "number"})

    def test_bases(self):
        self.assertEqual(errors.LastrowsError.__bases__, (ValueError,))
        for name in [name for name, _, _ in listed() if name != "LastrowsError"] + ["LineRefused"]:
            self.assertEqual(getattr(errors, name).__bases__, (errors.LastrowsError,), name)

    def test_they_are_raised_and_caught_by_name(self):
        witness = Vector([1, 2])
        with self.assertRaises(ValueError) as context:
            raise errors.Singular(witness)
        self.assertIs(context.exception.witness, witness)
