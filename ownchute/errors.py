"""The errors of the package, one class for each kind of failure.

The classes leave the message to Python, which shows the values that an error was created with.
"""

from ownchute.kinds import copied


class BeltError(ValueError):
    """The base class of the errors about values that are wrong."""


class Missing(LookupError):
    """The base class of the errors about what is not there."""


class WrongCount(BeltError):
    """There are too few or too many belts or rooms."""

    def __init__(self, given):
        self.code = "WrongCount"
        self.given = copied(given)


class InvalidNumber(BeltError):
    """A value is no number that can stand in its place."""

    def __init__(self, given):
        self.code = "InvalidNumber"
        self.given = copied(given)


class InvalidWord(BeltError):
    """A value is no word that can stand in its place."""

    def __init__(self, given):
        self.code = "InvalidWord"
        self.given = copied(given)


class InvalidPoint(BeltError):
    """A value is no point that can stand in its place."""

    def __init__(self, given):
        self.code = "InvalidPoint"
        self.given = copied(given)


class InvalidField(BeltError):
    """A name is none of those that can be changed."""

    def __init__(self, name):
        self.code = "InvalidField"
        self.name = copied(name)


class InvalidText(BeltError):
    """A text, or a line of it, cannot be read."""

    def __init__(self, at):
        self.code = "InvalidText"
        self.at = copied(at)


class InvalidDeed(BeltError):
    """A value is no deed."""

    def __init__(self, at):
        self.code = "InvalidDeed"
        self.at = copied(at)


class NotNow(BeltError):
    """A deed is not possible where it stands."""

    def __init__(self, at):
        self.code = "NotNow"
        self.at = copied(at)


class InvalidChute(BeltError):
    """A value is no chute."""

    def __init__(self, given):
        self.code = "InvalidChute"
        self.given = copied(given)


class InvalidOffer(BeltError):
    """A value is no offer."""

    def __init__(self, at):
        self.code = "InvalidOffer"
        self.at = copied(at)


class Unlike(BeltError):
    """Two plants have different lines."""

    def __init__(self):
        self.code = "Unlike"


class TooMany(BeltError):
    """There are more than the most that may be looked at."""

    def __init__(self, most):
        self.code = "TooMany"
        self.most = copied(most)


class InvalidName(BeltError):
    """A value is no name."""

    def __init__(self, given):
        self.code = "InvalidName"
        self.given = copied(given)


class DuplicateName(BeltError):
    """A name is there already."""

    def __init__(self, name):
        self.code = "DuplicateName"
        self.name = copied(name)


class Full(BeltError):
    """There are as many plants as the limit."""

    def __init__(self, most):
        self.code = "Full"
        self.most = copied(most)


class InvalidLimit(BeltError):
    """A value is no limit."""

    def __init__(self, given):
        self.code = "InvalidLimit"
        self.given = copied(given)


class InvalidCommand(BeltError):
    """A value is no command."""

    def __init__(self, at):
        self.code = "InvalidCommand"
        self.at = copied(at)


class InvalidPage(BeltError):
    """A line cannot stand where it stands in a page."""

    def __init__(self, at):
        self.code = "InvalidPage"
        self.at = copied(at)


class UnknownName(Missing):
    """No plant has this name."""

    def __init__(self, name):
        self.code = "UnknownName"
        self.name = copied(name)


class NothingLeft(IndexError):
    """There is no step to undo or redo."""

    def __init__(self):
        self.code = "NothingLeft"
