"""The errors of the package."""


class FourError(ValueError):
    """Something that is not of the form that is asked for."""


class InvalidRatio(FourError):
    """No ratio."""


class InvalidAlgebra(FourError):
    """No algebra."""


class InvalidFour(FourError):
    """No four, or one of another algebra."""


class InvalidLattice(FourError):
    """No lattice, or one of another algebra."""


class InvalidOrder(FourError):
    """No order."""


class InvalidIdeal(FourError):
    """No ideal."""


class InvalidForm(FourError):
    """No form."""


class InvalidOperation(FourError):
    """An operation that is not told for these values."""


class ParseError(FourError):
    """A text that cannot be read; `spot` tells where."""

    def __init__(self, spot):
        self.spot = spot


class InvalidNumber(IndexError):
    """A number that is not let; `given` is the value that was passed."""

    def __init__(self, given):
        self.given = given


class UnknownName(KeyError):
    """A name that stands for nothing."""

    def __init__(self, wanted):
        self.wanted = wanted


class TooMany(OverflowError):
    """More than the bound `most`."""

    def __init__(self, most):
        self.most = most


class Refused(ArithmeticError):
    """A call that is refused; the first member of `reason` is a word."""

    def __init__(self, reason):
        self.reason = reason


class NothingToUndo(LookupError):
    """Fewer than `steps` steps can be taken back."""

    def __init__(self, steps):
        self.steps = steps
