"""The two-sided walk: it keeps two rows for every matrix, but it can halt early."""

from lastrows.elimination import solve
from lastrows.matrices import Matrix, from_rows
from lastrows.ratios import Ratio
from lastrows.spaces import powers
from lastrows.vectors import Vector, without


class TwoSided:
    """The rows of a side and the partners of a partner, until a row and its partner have the pairing zero."""

    def __init__(self, matrix, side, partner):
        transposed = matrix.transpose
        rows = [side]
        partners = [partner]
        pairings = []
        middles = []
        links = []
        pairing = side.dot(partner)
        while not pairing.is_zero:
            if len(pairings) > 0:
                links.append(pairing.over(pairings[-1]))
            pairings.append(pairing)
            image = matrix * rows[-1]
            middles.append(image.dot(partners[-1]).over(pairing))
            # The first row has no earlier one, and there is no link then.
            shares = [middles[-1], *links[-1:]]
            rows.append(without(image, shares, rows[:-3:-1]))
            partners.append(without(transposed * partners[-1], shares, partners[:-3:-1]))
            pairing = rows[-1].dot(partners[-1])
        self.rows = tuple(rows)
        self.partners = tuple(partners)
        self.pairings = tuple(pairings)
        self.middles = tuple(middles)
        self.links = tuple(links)
        self.halt = len(pairings)
        self.ending = _ending(rows[-1], partners[-1])

    def slants(self, k):
        """Returns the matrix of the first k middles, with ones below the diagonal and links above; k is 1 or more."""
        return from_rows([Vector.of([_slant(self, row, column) for column in range(k)]) for row in range(k)])

    def answer_at(self, k):
        """Returns the vector in the space of order k whose residual has the dot zero with k partners, or None."""
        if k == 0:
            return Vector.zero(len(self.rows[0]))
        # In the rows as a base, the dots with the partners are the slants times the pairings, and the side is row 0.
        shares = solve(self.slants(k), Vector.unit(k, 0)).answer
        return None if shares is None else Matrix.columns(self.rows[:k]) * shares


def _ending(row, partner):
    if row.is_zero:
        return "row"
    return "partner" if partner.is_zero else "pairing"


def _slant(walk, row, column):
    if row == column:
        return walk.middles[row]
    if row == column - 1:
        # The links start with the one at 1.
        return walk.links[row]
    return Ratio(1 if row == column + 1 else 0)


def moments(matrix, side, partner, count):
    """Returns the dots of the partner with the side, with `matrix * side` and so on, of the given number."""
    return tuple([step.dot(partner) for step in powers(matrix, side, count)])
