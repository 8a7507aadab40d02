"""The errors of this package: each keeps the one value that it is about."""


class CountError(Exception):
    """The base of all errors of this package."""


class BadArgument(CountError):
    """A value of another class than the argument asks for."""

    def __init__(self, value):
        self.value = value


class BadProgram(CountError):
    """No program can be made; the part tells what is wrong."""

    def __init__(self, part):
        self.part = part


class BadPlace(CountError):
    """A value that is no place of the program."""

    def __init__(self, value):
        self.value = value


class BadWay(CountError):
    """A value that is no way here, or was given before."""

    def __init__(self, value):
        self.value = value


class BadRun(CountError):
    """A value that is no run of the program."""

    def __init__(self, value):
        self.value = value


class BadCounter(CountError):
    """A value that is no counter here, or was given before."""

    def __init__(self, value):
        self.value = value


class BadLot(CountError):
    """A value that is no dict of counts of the program."""

    def __init__(self, value):
        self.value = value


class NoLot(CountError):
    """No lot has these counts; the reason tells why."""

    def __init__(self, reason):
        self.reason = reason


class BadNumber(CountError):
    """A value that is no number within the limits."""

    def __init__(self, value):
        self.value = value


class BadValues(CountError):
    """A value that is no dict of values of the counters."""

    def __init__(self, value):
        self.value = value


class NotTold(CountError):
    """A counter that is not told."""

    def __init__(self, counter):
        self.counter = counter


class Rings(CountError):
    """The program has rings; this is one of them."""

    def __init__(self, ring):
        self.ring = ring


class BadCosts(CountError):
    """A value that is no dict of costs."""

    def __init__(self, value):
        self.value = value


class BadLevels(CountError):
    """A value that is no dict of levels."""

    def __init__(self, value):
        self.value = value


class TooMany(CountError):
    """More than the limit; the number tells how many."""

    def __init__(self, number):
        self.number = number


class BadChange(CountError):
    """A value that is no change, or one that cannot be made."""

    def __init__(self, value):
        self.value = value


class BadText(CountError):
    """A text that cannot be read, or the number of its wrong line."""

    def __init__(self, at):
        self.at = at


class BadName(CountError):
    """A value that cannot be a name here."""

    def __init__(self, value):
        self.value = value


class NameTaken(CountError):
    """Something of the other class has the name."""

    def __init__(self, name):
        self.name = name


class UnknownName(CountError):
    """Nothing has the name."""

    def __init__(self, name):
        self.name = name


class FailedDeed(CountError):
    """The deed with this number failed."""

    def __init__(self, at):
        self.at = at


class NothingToUndo(CountError):
    """There is no step to be taken back."""


class BadCommand(CountError):
    """A line that is no command."""

    def __init__(self, line):
        self.line = line
