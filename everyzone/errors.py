"""The exceptions of the package: three bases, and each other class directly under one of them."""


class TimeError(ValueError):
    """The base of all errors for invalid arguments."""


class MissingError(KeyError):
    """The base of all errors for unknown names."""


class StateError(LookupError):
    """The base of all errors for operations that are not possible."""


class InvalidPart(TimeError):
    """A container as a whole, or a part of it, is not what was asked for."""

    def __init__(self, value):
        self.value = value


class InvalidInteger(TimeError):
    """Not an integer, or not one within the bounds."""

    def __init__(self, value):
        self.value = value


class InvalidName(TimeError):
    """Not a name."""

    def __init__(self, value):
        self.value = value


class InvalidTime(TimeError):
    """Not a time from 0 to 1439."""

    def __init__(self, value):
        self.value = value


class InvalidText(TimeError):
    """Not a string, or not one of the form that was asked for."""

    def __init__(self, value):
        self.value = value


class InvalidLine(TimeError):
    """The line of a program with this index is wrong."""

    def __init__(self, index):
        self.index = index


class InvalidBound(TimeError):
    """Not a bound."""

    def __init__(self, value):
        self.value = value


class InvalidValues(TimeError):
    """Not a dict with an integer for each name."""

    def __init__(self, value):
        self.value = value


class InvalidCase(TimeError):
    """Not a case."""

    def __init__(self, value):
        self.value = value


class InvalidCommand(TimeError):
    """Not a command of a session."""

    def __init__(self, value):
        self.value = value


class InvalidChange(TimeError):
    """Not a change, or not one that a zone can have at this place."""

    def __init__(self, value):
        self.value = value


class InvalidJump(TimeError):
    """Not a jump."""

    def __init__(self, value):
        self.value = value


class InvalidRule(TimeError):
    """Not a rule by which readings are placed."""

    def __init__(self, value):
        self.value = value


class InvalidLog(TimeError):
    """Not a log of readings."""

    def __init__(self, value):
        self.value = value


class InvalidEntry(TimeError):
    """Not an entry of a log, or not one that can stand at this place."""

    def __init__(self, value):
        self.value = value


class InvalidWord(TimeError):
    """Not one of the words that were asked for."""

    def __init__(self, value):
        self.value = value


class Duplicate(TimeError):
    """An item that occurred before."""

    def __init__(self, label):
        self.label = label


class NotZone(TimeError):
    """Not a zone."""

    def __init__(self, value):
        self.value = value


class NotKind(TimeError):
    """Not a kind of zones."""

    def __init__(self, value):
        self.value = value


class NotProgram(TimeError):
    """Not a program."""

    def __init__(self, value):
        self.value = value


class UnlikeStarts(TimeError):
    """A program whose start has other bounds."""

    def __init__(self, value):
        self.value = value


class NoAnswer(MissingError):
    """No answer of the program has this index."""

    def __init__(self, index):
        self.index = index


class UnknownName(MissingError):
    """A name that is not bound."""

    def __init__(self, label):
        self.label = label


class NoPlace(MissingError):
    """No line that places a reading has this index."""

    def __init__(self, index):
        self.index = index


class NoLine(MissingError):
    """No line of the program has this index."""

    def __init__(self, index):
        self.index = index


class NotStart(StateError):
    """A moment at which the program cannot start."""

    def __init__(self, value):
        self.value = value


class NotPossible(StateError):
    """Not all bounds can hold, as this ring shows."""

    def __init__(self, value):
        self.value = value


class NoProgram(StateError):
    """The session has no program."""


class NothingToUndo(StateError):
    """There is no change to take back or to perform again."""
