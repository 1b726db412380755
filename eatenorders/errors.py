"""The errors that the package raises."""


class NoPiece(LookupError):
    """A number that tells no piece of what it is looked for in."""

    def __init__(self, piece):
        self.piece = piece


class NothingDone(LookupError):
    """Nothing is there to be taken back, or to be done once more."""


class BadText(ValueError):
    """A text with a fault in the line of this number, from 0."""

    def __init__(self, line):
        self.line = line


class Broken(ValueError):
    """What has this number cannot be done, or is not there."""

    def __init__(self, number):
        self.number = number


class CanNot(ValueError):
    """There is nothing such as was asked for."""


class TooMany(ValueError):
    """What was asked about has more cases than are gone through."""


class Unfit(ValueError):
    """An argument that is no such value as it must be."""
