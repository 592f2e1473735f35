"""The errors of the program: each holds, as it is, the value that it is told."""


class ShellError(ValueError):
    """The error of which all others are."""

    def __init__(self, value):
        self.value = value


class InvalidTree(ShellError):
    """A word, a sum or a script that is none."""


class InvalidName(ShellError):
    """A text that is no name."""


class InvalidNumber(ShellError):
    """A number that is too small."""


class InvalidRoom(ShellError):
    """A room that is none."""


class InvalidPattern(ShellError):
    """A pattern that is none."""


class Unreadable(ShellError):
    """A text that is not read."""


class Refused(ShellError):
    """A word whose expansion is refused."""


class NoInteger(ShellError):
    """A value in a sum that is no integer."""


class DividedByZero(ShellError):
    """A part of a sum whose second part is 0."""


class TooGreat(ShellError):
    """A part of a sum whose number is too great."""


class Wanted(ShellError):
    """A script in a word that has no answer."""


class InvalidWorld(ShellError):
    """A world that is none."""


class InvalidPath(ShellError):
    """A path that is none, or that cannot be used so."""


class UnknownTool(ShellError):
    """Fields that call no tool."""


class InvalidFilters(ShellError):
    """Filters that are none, or that are not let."""


class InvalidNet(ShellError):
    """A net that is none."""


class InvalidMove(ShellError):
    """A move of a cell that is not there, or cannot move."""


class InvalidOrder(ShellError):
    """An order that lacks one, or has one that is not there."""


class TooLong(ShellError):
    """A run that takes too many steps."""


class Done(ShellError):
    """A step of a walk that is done."""


class NoLine(ShellError):
    """An elder line that is not there."""


class NothingToUndo(ShellError):
    """Nothing is left that can be taken back."""


class DoubleName(ShellError):
    """A name that is there already."""


class UnknownName(ShellError):
    """A name that is not there."""
