"""Histories: a first task and the changes made since, which lead every answer back to the first task."""

from lastrows.changes import change_named
from lastrows.errors import NothingToUndo, NoWayBack, TooLong

_TASK_LIMIT = 10 ** 12
_MEASURE_LIMIT = 10 ** 60


class History:
    """A first task and the changes made since."""

    def __init__(self, task):
        _check_digits(task)
        self._first = task
        self._changes = ()
        self._names = ()

    def __len__(self):
        return len(self._changes)

    def __iter__(self):
        return iter(self._names)

    def apply(self, name, argument=None):
        """Makes the change of a name to the present task and returns the task that is present then."""
        change = change_named(name, self.present(), argument)
        _check_digits(change.task)
        self._keep((*self._changes, change))
        return change.task

    def undo(self):
        """Removes the last change and returns the task that is present then."""
        if len(self._changes) == 0:
            raise NothingToUndo()
        self._keep(self._changes[:-1])
        return self.present()

    def present(self):
        """Returns the task as it is after all changes."""
        return self._changes[-1].task if len(self._changes) > 0 else self._first

    def origin(self):
        """Returns the first task."""
        return self._first

    def lead(self, x):
        """Leads an answer of the present task back to the first task."""
        self.check_way_back()
        led = x
        for change in self._changes[::-1]:
            led = change.back.lead(led)
        return led

    def check_way_back(self):
        """Raises NoWayBack if one of the changes has no way back."""
        for place, change in enumerate(self._changes):
            if change.back is None:
                raise NoWayBack(place)

    def copied(self):
        """Returns a history of its own with the same first task and the same changes."""
        other = History(self._first)
        other._keep(self._changes)
        return other

    def _keep(self, changes):
        self._changes = changes
        self._names = tuple([change.name for change in changes])


def _check_digits(task):
    _check_part("matrix", _longest(task.matrix), _TASK_LIMIT)
    _check_part("side", max([abs(number) for number in (*task.side.tops, task.side.bottom)]), _TASK_LIMIT)
    _check_part("measure", _longest(task.measure.matrix), _MEASURE_LIMIT)


def _check_part(part, longest, limit):
    if longest >= limit:
        raise TooLong(part)


def _longest(matrix):
    return max([abs(top) for row in matrix.tops for top in row] + [matrix.bottom])
