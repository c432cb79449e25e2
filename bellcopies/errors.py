"""The errors of the package."""


class BellError(ValueError):
    """The base class of all errors of the package."""


class BadSize(BellError):
    """A size that is not allowed."""


class BadBells(BellError):
    """Bells that are not allowed."""


class BadSigns(BellError):
    """Signs that are not allowed."""


class BadPerson(BellError):
    """A person who is not there, or not in the right order."""


class BadStair(BellError):
    """A value that is not a stair."""


class BadPair(BellError):
    """A second row that is not as long as the first."""


class BadCount(BellError):
    """A number of things that is not allowed."""


class BadMoves(BellError):
    """Moves that are not allowed."""


class BadRising(BellError):
    """A value that is not a rising row."""


class BadLift(BellError):
    """A value that is not a lift."""


class BadWeb(BellError):
    """A value that is not a web; index is that of the first bad arc, or None."""

    def __init__(self, index):
        self.index = index


class BadLog(BellError):
    """A value that is not a log of the web."""


class BadGoal(BellError):
    """A value that is not a goal of the web."""


class BadPrices(BellError):
    """Prices that are not allowed."""


class BadHearings(BellError):
    """Hearings that are not allowed; index is that of the first bad pair, or None."""

    def __init__(self, index):
        self.index = index


class NoFit(BellError):
    """Hearings that nothing fits."""


class BadStarts(BellError):
    """Starts that are not allowed."""


class BadOdds(BellError):
    """Odds that are not allowed."""


class BadTimes(BellError):
    """A table of times that is not allowed; index is that of the first bad pair, or None."""

    def __init__(self, index):
        self.index = index


class NotText(BellError):
    """A value that is not a string."""


class InvalidText(BellError):
    """A text that names no web; place is that of the first wrong character."""

    def __init__(self, place):
        self.place = place


class BadArc(BellError):
    """An index that no arc of the web has."""


class TooLong(BellError):
    """A log that would become too long."""


class BadSign(BellError):
    """A sign that is not allowed."""


class NothingToUndo(BellError):
    """There is nothing that could be taken back."""


class BadGroup(BellError):
    """A value that is not an ascending tuple of people."""


class BadChances(BellError):
    """Chances that are not allowed."""


class TooMany(BellError):
    """More than the most that is allowed."""

    def __init__(self, most):
        self.most = most
