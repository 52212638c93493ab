"""The errors of the package."""


class FoundryError(ValueError):
    """The base of the errors for values that are not what they should be."""


class InvalidTree(FoundryError):
    """No tree, or no statement."""


class InvalidBody(FoundryError):
    """No body, or there is no such body."""


class InvalidMachine(FoundryError):
    """No machine, or there is no such machine."""


class InvalidCover(FoundryError):
    """No cover of the body by the machine, or no beginning of one."""


class InvalidJob(FoundryError):
    """No job."""


class InvalidLives(FoundryError):
    """No lives, or there are no such lives."""


class InvalidKernel(FoundryError):
    """No kernel, or there is no such kernel."""


class InvalidArgument(FoundryError):
    """An argument that no other error is for."""


class ParseError(FoundryError):
    """Something that cannot be read: `line` is its index, or None."""

    def __init__(self, line):
        self.line = line


class UnknownName(KeyError):
    """A name, or what stands in the place of one, that is not there."""

    def __init__(self, wanted):
        self.wanted = wanted


class InvalidNumber(RuntimeError):
    """What is no integer, or no integer that may stand there."""

    def __init__(self, value):
        self.value = value


class TooMany(OverflowError):
    """More than the limit."""

    def __init__(self, limit):
        self.limit = limit


class NothingToUndo(IndexError):
    """Fewer steps to undo than were asked for."""

    def __init__(self, many):
        self.many = many


class Broken(ArithmeticError):
    """Something of a kind that is not right, for a reason."""

    def __init__(self, kind, reason):
        self.kind = kind
        self.reason = reason
