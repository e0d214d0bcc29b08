"""The answers to the question for a measure in which the adjoint of a matrix is a polynomial of it."""

from lastrows.matrices import Matrix, from_rows
from lastrows.spaces import powers
from lastrows.vectors import Vector


class AdjointAnswer:
    """What all answers have."""

    def __init__(self, granted):
        self.granted = granted

    def holds(self, a, poly):
        """Returns False, since this class alone says nothing that could hold."""
        return False


class TraceDiffers(AdjointAnswer):
    """There is no such measure: the traces of this power of the matrix and of its polynomial differ."""

    def __init__(self, power):
        AdjointAnswer.__init__(self, False)
        self.power = power

    def holds(self, a, poly):
        """Tells whether the two traces differ."""
        if self.power < 1 or self.power > a.height:
            return False
        return power_traces(a)[self.power] != power_traces(poly(a))[self.power]


class NoReturn(AdjointAnswer):
    """There is no such measure: the polynomial of the polynomial of the matrix is not the matrix."""

    def __init__(self):
        AdjointAnswer.__init__(self, False)

    def holds(self, a, poly):
        """Tells whether the polynomial of the polynomial of the matrix differs from the matrix."""
        return poly(poly(a)) != a


class TraceBar(AdjointAnswer):
    """There is no such measure: a trace that would have to be positive for the witness is not."""

    def __init__(self, witness):
        AdjointAnswer.__init__(self, False)
        self.witness = witness

    def holds(self, a, poly):
        """Tells whether the witness is of a fitting degree and its trace is zero or negative."""
        if self.witness.is_zero or self.witness.degree >= a.height:
            return False
        return (self.witness(a) * self.witness(poly(a))).trace().sign != 1


class Granted(AdjointAnswer):
    """The measure is one in which the adjoint of the matrix is the polynomial of it."""

    def __init__(self, measure):
        AdjointAnswer.__init__(self, True)
        self.measure = measure

    def holds(self, a, poly):
        """Tells whether the adjoint in the measure is the polynomial of the matrix."""
        return self.measure.size == a.height and self.measure.adjoint(a) == poly(a)


def trace_table(a, poly):
    """Returns the matrix of the traces of `a ** i * poly(a) ** j` for all i and j below the size."""
    lefts = _matrix_powers(a, a.height)
    rights = _matrix_powers(poly(a), a.height)
    return from_rows([Vector.of([(left * right).trace() for right in rights]) for left in lefts])


def power_traces(a):
    """Returns the traces of the powers of the matrix from 0 to its size."""
    return tuple([power.trace() for power in _matrix_powers(a, a.height + 1)])


def _matrix_powers(a, count):
    # The identity as a start gives the powers of the matrix itself.
    return powers(a, Matrix.identity(a.height), count)
