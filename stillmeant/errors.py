"""All errors of the package."""


class StillError(ValueError):
    """Something that was passed is wrong or refused."""


class Missing(LookupError):
    """Something that was asked for does not exist."""


class InvalidName(StillError):
    """A value that is no name, or no name that may stand there."""

    def __init__(self, name):
        self.name = name
        self.code = "InvalidName"


class DuplicateName(StillError):
    """A name that occurs earlier."""

    def __init__(self, name):
        self.name = name
        self.code = "DuplicateName"


class InvalidNumber(StillError):
    """A value that is no number of the kind that is asked for."""

    def __init__(self, number):
        self.number = number
        self.code = "InvalidNumber"


class InvalidTable(StillError):
    """A value that is no table of merges."""

    def __init__(self, given):
        self.given = given
        self.code = "InvalidTable"


class InvalidBases(StillError):
    """A value that is no word for bases."""

    def __init__(self, given):
        self.given = given
        self.code = "InvalidBases"


class InvalidDeed(StillError):
    """A value that is no deed of the shape."""

    def __init__(self):
        self.code = "InvalidDeed"


class InvalidCondition(StillError):
    """A value that is no text of a condition."""

    def __init__(self, given):
        self.given = given
        self.code = "InvalidCondition"


class InvalidLine(StillError):
    """A value that is no line of a policy, at this index."""

    def __init__(self, at):
        self.at = at
        self.code = "InvalidLine"


class InvalidText(StillError):
    """A text with a line that is not of its form, at this index."""

    def __init__(self, at):
        self.at = at
        self.code = "InvalidText"


class InvalidCommand(StillError):
    """A value that is no command, at this index."""

    def __init__(self, at):
        self.at = at
        self.code = "InvalidCommand"


class Refused(StillError):
    """A deed that is refused, with the word that tells why."""

    def __init__(self, word):
        self.word = word
        self.code = "Refused"


class Impossible(StillError):
    """A line that is not possible."""

    def __init__(self, at):
        self.at = at
        self.code = "Impossible"


class TooMany(StillError):
    """More than this number."""

    def __init__(self, most):
        self.most = most
        self.code = "TooMany"


class Untimed(StillError):
    """A question about time to a web that is not timed."""

    def __init__(self):
        self.code = "Untimed"


class WrongShape(StillError):
    """Two objects whose shapes do not fit."""

    def __init__(self):
        self.code = "WrongShape"


class UnknownBranch(Missing):
    """A value that is no branch."""

    def __init__(self, name):
        self.name = name
        self.code = "UnknownBranch"


class UnknownChange(Missing):
    """A value that is no change."""

    def __init__(self, name):
        self.name = name
        self.code = "UnknownChange"


class UnknownMoment(Missing):
    """A moment that is none of those that are known."""

    def __init__(self):
        self.code = "UnknownMoment"


class NothingLeft(IndexError):
    """Nothing is left to undo or redo."""

    def __init__(self):
        self.code = "NothingLeft"
