"""The errors that the program raises."""


class WorkError(ValueError):
    """The base class of all errors of the program."""


class ZeroDivisor(WorkError):
    """A division by 0."""


class NegativeRoot(WorkError):
    """The root of a number below 0."""


class NoRoot(WorkError):
    """A polynomial has no real root with the place that was asked for."""


class BadText(WorkError):
    """A text cannot be read; the place is its fault."""

    def __init__(self, place):
        self.place = place


class BadStep(WorkError):
    """A step of a drawing is not well formed."""

    def __init__(self, index):
        self.index = index


class NotDrawn(WorkError):
    """A step of a drawing cannot be drawn."""

    def __init__(self, index):
        self.index = index
