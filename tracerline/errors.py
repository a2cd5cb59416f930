"""The errors of the program. No error formats its values: they may be too long for a text."""


class TracerError(ValueError):
    """The base class of all errors of the program."""


class BadFraction(TracerError):
    """A fraction has the bottom 0, or a number is divided by zero."""


class BadPolynomial(TracerError):
    """The zero polynomial stands where it cannot."""


class BadReadings(TracerError):
    """A list of readings is too short or begins with a wrong entry."""


class NothingLeft(TracerError):
    """There is nothing to take back or to make again."""


class BadShare(TracerError):
    """A number is outside of the range that is given for it."""

    def __init__(self, share):
        self.share = share


class BadTick(TracerError):
    """A tick or a step is too small."""

    def __init__(self, tick):
        self.tick = tick


class BadRoom(TracerError):
    """A web has no room of this number."""

    def __init__(self, room):
        self.room = room


class BadWeb(TracerError):
    """The numbers that are given do not describe a web."""

    def __init__(self, reason):
        self.reason = reason


class BadLine(TracerError):
    """The shares that are given are not those of a line."""

    def __init__(self, place):
        self.place = place


class BadForm(TracerError):
    """A string is not one of those that may be chosen from."""

    def __init__(self, form):
        self.form = form


class BadText(TracerError):
    """A text is not valid; line and column count from 1."""

    def __init__(self, line, column):
        self.line = line
        self.column = column


class BadName(TracerError):
    """A string is not a name."""

    def __init__(self, name):
        self.name = name


class TakenName(TracerError):
    """A name is already in use."""

    def __init__(self, name):
        self.name = name


class UnknownName(TracerError):
    """Nothing has this name."""

    def __init__(self, name):
        self.name = name


class FullReader(TracerError):
    """No further reading fits."""

    def __init__(self, most):
        self.most = most


class Barred(TracerError):
    """No web shows the readings; the weights prove it."""

    def __init__(self, tick, weights):
        self.tick = tick
        self.weights = weights


class OutOfRange(TracerError):
    """A value is not between the least and the greatest reading."""

    def __init__(self, least, greatest):
        self.least = least
        self.greatest = greatest


class Misfit(TracerError):
    """A supposition differs from a reading."""

    def __init__(self, tick):
        self.tick = tick


class NoWeb(TracerError):
    """No one-way web shows the readings."""

    def __init__(self, tick):
        self.tick = tick
