"""The errors of the package, one class for each kind of failure."""


class FaceError(ValueError):
    """What all errors of the package derive from."""


class InvalidSheet(FaceError):
    """The argument sheet is no sheet."""


class InvalidFamily(FaceError):
    """The argument family is no family, or has a day beyond the days that are asked for."""


class InvalidPattern(FaceError):
    """The argument pattern is no pattern, or has a day that the sheet does not have."""


class InvalidJoins(FaceError):
    """The argument joins is no list of joins, or asks for more than the sheet lets."""


class InvalidRow(FaceError):
    """The argument row is not what the next day needs."""


class InvalidCount(FaceError):
    """The argument count is no number of days."""


class InvalidWidth(FaceError):
    """The argument width is out of its limits."""


class InvalidDay(FaceError):
    """A day is not there, or two days are too near or too far from one another."""


class InvalidNumber(FaceError):
    """No family has the number that is asked for."""


class InvalidIndex(FaceError):
    """The argument index is out of its limits."""


class NotFull(FaceError):
    """The sheet has less width than days."""


class NothingToUndo(FaceError):
    """There is no day left to undo."""


class Impossible(FaceError):
    """No family has the sheet: the three arguments are what conflict_of tells."""

    def __init__(self, word, first, second):
        self.word = word
        self.first = first
        self.second = second


class InvalidText(FaceError):
    """A text cannot be read: place is the number of the first word that cannot stand there."""

    def __init__(self, place):
        self.place = place
