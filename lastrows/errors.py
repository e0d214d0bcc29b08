"""The errors of this package. Each one has a `word`, by which a script line tells why it was refused."""


class LastrowsError(ValueError):
    """The class of all errors of this package."""

    def __init__(self):
        self.word = "error"


class ZeroBottom(LastrowsError):
    """A bottom is zero."""

    def __init__(self):
        self.word = "bottom"


class BadNumber(LastrowsError):
    """A text is not a written number."""

    def __init__(self, text):
        self.text = text
        self.word = "number"


class BadText(LastrowsError):
    """A text is not of the required form."""

    def __init__(self, text):
        self.text = text
        self.word = "text"


class Empty(LastrowsError):
    """A list that must hold something is empty."""

    def __init__(self):
        self.word = "empty"


class RaggedRows(LastrowsError):
    """The row at an index has another length than the first row."""

    def __init__(self, index):
        self.index = index
        self.word = "ragged"


class SizeMismatch(LastrowsError):
    """Two sizes that must be equal differ."""

    def __init__(self, left, right):
        self.left = left
        self.right = right
        self.word = "sizes"


class NotSquare(LastrowsError):
    """A matrix that must be square is not."""

    def __init__(self, height, width):
        self.height = height
        self.width = width
        self.word = "square"


class SizeOutOfRange(LastrowsError):
    """A size is not one of those that are allowed."""

    def __init__(self, size):
        self.size = size
        self.word = "size"


class Singular(LastrowsError):
    """A matrix has no inverse: it sends the nonzero witness to zero."""

    def __init__(self, witness):
        self.witness = witness
        self.word = "singular"


class NotSymmetric(LastrowsError):
    """A matrix differs from its transpose in the row `first` and the column `second`."""

    def __init__(self, first, second):
        self.first = first
        self.second = second
        self.word = "symmetric"


class NotPositive(LastrowsError):
    """A symmetric matrix gives the nonzero witness a square that is not positive."""

    def __init__(self, witness):
        self.witness = witness
        self.word = "positive"


class ZeroPoly(LastrowsError):
    """A polynomial that must not be zero is zero."""

    def __init__(self):
        self.word = "poly"


class ZeroRow(LastrowsError):
    """The row at an index is zero."""

    def __init__(self, index):
        self.index = index
        self.word = "row"


class NotCyclic(LastrowsError):
    """The minimal polynomial has the degree `found`, which is below the size."""

    def __init__(self, found):
        self.found = found
        self.word = "cyclic"


class DegreeTooLarge(LastrowsError):
    """A polynomial has the degree `found`, which is not below the size."""

    def __init__(self, found):
        self.found = found
        self.word = "degree"


class NotSelfAdjoint(LastrowsError):
    """A matrix differs from its adjoint in the row `first` and the column `second`."""

    def __init__(self, first, second):
        self.first = first
        self.second = second
        self.word = "adjoint"


class BadWay(LastrowsError):
    """There is no way of solving with this name."""

    def __init__(self, way):
        self.way = way
        self.word = "way"


class BadPoly(LastrowsError):
    """The polynomial at a place of a course is not monic of the degree that belongs there."""

    def __init__(self, place):
        self.place = place
        self.word = "monic"


class ZeroEnd(LastrowsError):
    """The last polynomial of a course has the constant coefficient zero."""

    def __init__(self):
        self.word = "end"


class NotFalling(LastrowsError):
    """The curve of a course does not fall to a positive ratio at a place."""

    def __init__(self, place):
        self.place = place
        self.word = "falling"


class WrongStand(LastrowsError):
    """The curve of a course stands still at a place where it must not, or falls where it must stand still."""

    def __init__(self, place):
        self.place = place
        self.word = "stand"


class NotFull(LastrowsError):
    """The side of a task has a grade below the size."""

    def __init__(self, grade):
        self.grade = grade
        self.word = "full"


class ZeroPartner(LastrowsError):
    """The partner is the zero vector."""

    def __init__(self):
        self.word = "partner"


class ZeroScale(LastrowsError):
    """A task is scaled by zero."""

    def __init__(self):
        self.word = "scale"


class BadChange(LastrowsError):
    """There is no change with this name."""

    def __init__(self, name):
        self.name = name
        self.word = "change"


class TooLong(LastrowsError):
    """A part of a task has a number with too many digits."""

    def __init__(self, part):
        self.part = part
        self.word = "long"


class NothingToUndo(LastrowsError):
    """A history has no change that could be undone."""

    def __init__(self):
        self.word = "undo"


class NoWayBack(LastrowsError):
    """The change at a place has no way back."""

    def __init__(self, place):
        self.place = place
        self.word = "back"


class BadCommand(LastrowsError):
    """A line does not begin with a command, or the command is used in a wrong way."""

    def __init__(self, text):
        self.text = text
        self.word = "command"


class NoTask(LastrowsError):
    """There is no present task."""

    def __init__(self):
        self.word = "task"


class LineRefused(LastrowsError):
    """A line of a script raised an error, the word of which is `word`."""

    def __init__(self, line, word):
        self.line = line
        self.word = word
