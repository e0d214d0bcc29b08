"""Reading a line of the desk: its command word, and the argument of the command."""

from lastrows.errors import BadCommand, BadNumber, BadText, BadWay
from lastrows.matrices import Matrix
from lastrows.measures import Measure
from lastrows.polys import Poly
from lastrows.ratios import Ratio
from lastrows.tasks import Task
from lastrows.vectors import Vector

_ALONE = ("normal", "flip", "undo", "show", "walk", "memory", "least", "back")
_WAYS = ("least", "orthogonal", "energy")
_COUNTS = ("1", "2", "3", "4", "5", "6")
_RESTART_COUNTS = ("1", "2")


# The table of the readers needs functions of its own, since static methods are called off their classes only.
def _read_task(text):
    return Task.read(text)


def _read_ratio(text):
    return Ratio.read(text)


def _read_vector(text):
    return Vector.read(text)


def _read_matrix(text):
    return Matrix.read(text)


def _read_measure(text):
    return Measure(Matrix.read(text))


def _read_poly(text):
    return Poly.read(text)


def _read_way(text):
    if text not in _WAYS:
        raise BadWay(text)
    return text


def _read_count(text):
    return _one_of(text, _COUNTS)


def _read_restart(text):
    words = text.split(" ")
    if len(words) != 2:
        raise BadText(text)
    return tuple([_one_of(word, _RESTART_COUNTS) for word in words])


def _one_of(word, counts):
    if word not in counts:
        raise BadNumber(word)
    return int(word)


_READERS = {
    "task": _read_task,
    "shift": _read_ratio,
    "scale": _read_ratio,
    "turn": _read_matrix,
    "remeasure": _read_measure,
    "guess": _read_vector,
    "ahead": _read_poly,
    "adjoint": _read_poly,
    "solve": _read_way,
    "short": _read_count,
    "forget": _read_count,
    "restart": _read_restart,
    "partner": _read_vector,
    "halt": _read_vector,
}


def split_line(line):
    """Returns the command word of a line and the text of its argument, None for a command that takes none."""
    word, space, text = line.partition(" ")
    if word in _READERS and space == " ":
        return word, text
    if word in _ALONE and space == "":
        return word, None
    raise BadCommand(line)


def read_argument(word, text):
    """Returns the argument of a command, None for a command that takes none."""
    if text is None:
        return None
    reader = _READERS[word]
    return reader(text)
