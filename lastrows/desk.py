"""The desk: it runs all of this line by line from a text."""

from lastrows.errors import LastrowsError, LineRefused, NoTask
from lastrows.history import History
from lastrows.inverses import inverse
from lastrows.reading import read_argument, split_line
from lastrows.telling import tells, told_lines


class Desk:
    """A history that is worked on by scripts; there is none before the first task."""

    def __init__(self):
        self._history = None
        self._lines_run = 0

    def run(self, text):
        """Runs the lines of a text and returns the list of the output lines."""
        # All lines work on a copy, so that a refused call leaves no trace.
        history = None if self._history is None else self._history.copied()
        told = []
        lines_run = 0
        for number, line in enumerate(text.split("\n"), start=1):
            if line == "" or line.startswith("#"):
                continue
            try:
                history, lines = _run_line(history, line)
            except LastrowsError as e:
                raise LineRefused(number, e.word) from e
            told.extend(lines)
            lines_run += 1
        self._history = history
        self._lines_run = self._lines_run + lines_run
        return told

    def present(self):
        """Returns the present task."""
        if self._history is None:
            raise NoTask()
        return self._history.present()

    def names(self):
        """Returns the names of the changes of the present history."""
        return () if self._history is None else tuple(self._history)

    @property
    def lines_run(self):
        """How many lines have been run, without those of refused calls."""
        return self._lines_run


def _run_line(history, line):
    # Tells the history to go on with, which is a new one behind a `task`, and the output lines.
    word, text = split_line(line)
    if word != "task" and history is None:
        raise NoTask()
    argument = read_argument(word, text)
    following = History(argument) if word == "task" else history
    return following, _output_lines(following, word, argument)


def _output_lines(history, word, argument):
    if tells(word):
        return told_lines(word, history.present(), argument)
    if word == "back":
        return [_back_line(history)]
    if word == "undo":
        history.undo()
    elif word not in ("task", "show"):
        history.apply(word, argument)
    return [f"task {history.present()}"]


def _back_line(history):
    history.check_way_back()
    task = history.present()
    return f"answer {history.lead(inverse(task.matrix) * task.side)}"
