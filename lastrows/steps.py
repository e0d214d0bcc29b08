"""Steps: what a solver tells of one of the growing spaces."""


class Step:
    """The answer in the space of the order `count`, its residual, and the squared length of this residual."""

    def __init__(self, count, answer, residual, square):
        self.count = count
        self.answer = answer
        self.residual = residual
        self.square = square


class EnergyStep(Step):
    """A step with the energy and the error of its answer."""

    def __init__(self, count, answer, residual, square, energy, error):
        Step.__init__(self, count, answer, residual, square)
        self.energy = energy
        self.error = error
