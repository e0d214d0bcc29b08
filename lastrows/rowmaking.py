"""Rows one by one: from all earlier rows, or from the last few of them."""

from lastrows.errors import Empty, ZeroRow
from lastrows.vectors import without


def next_row(a, measure, rows):
    """Returns `a` times the last row minus its shares of all the given rows."""
    if len(rows) == 0:
        raise Empty()
    for index, row in enumerate(rows):
        if row.is_zero:
            raise ZeroRow(index)
    step = a * rows[-1]
    return without(step, [measure.dot(step, row).over(measure.norm(row)) for row in rows], rows)


def walk_rows(a, measure, start):
    """Yields the rows of the walk in order."""
    # A walk has no more rows than the size, so nothing is forgotten.
    yield from forgetful_rows(a, measure, start, keep=len(start))


def forgetful_rows(a, measure, start, *, keep):
    """Yields the start, and then the next row of the last `keep` vectors, up to `size + 1` vectors in all."""
    told = []
    row = start
    while not row.is_zero and len(told) <= len(start):
        told.append(row)
        yield row
        row = next_row(a, measure, told[-keep:])
