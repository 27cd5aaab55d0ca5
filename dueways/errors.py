"""The errors of the package.

What an error is about is read from its attributes. It may be any value, so no error writes it into a
message: Python itself keeps and shows what an error was created with.
"""


class DueError(ValueError):
    """A value is not what it must be."""


class InvalidCurve(DueError):
    """Something with which a curve would be written is wrong."""

    def __init__(self, problem, position):
        self.problem = problem
        self.position = position


class InvalidPiece(DueError):
    """An argument is not a piece of a curve, or there is none."""

    def __init__(self, position):
        self.position = position


class InvalidLength(DueError):
    """A value is not a length."""

    def __init__(self, value):
        self.value = value


class InvalidCount(DueError):
    """A value is not a count, or greater than it may be."""

    def __init__(self, value):
        self.value = value


class InvalidRecord(DueError):
    """A value is not a record."""

    def __init__(self, position):
        self.position = position


class InvalidVisit(DueError):
    """Something with which a visit would be made is wrong."""

    def __init__(self, problem):
        self.problem = problem


class InvalidVisits(DueError):
    """A value is not a list of the visits of a load."""

    def __init__(self, position):
        self.position = position


class InvalidSupply(DueError):
    """A value is not a list of the changes of a supply."""

    def __init__(self, position):
        self.position = position


class InvalidWindow(DueError):
    """A value is not a window."""

    def __init__(self, value):
        self.value = value


class InvalidStation(DueError):
    """Something with which a station would be made is wrong."""

    def __init__(self, problem):
        self.problem = problem


class InvalidNetwork(DueError):
    """Something with which a network would be made is wrong."""

    def __init__(self, problem, position):
        self.problem = problem
        self.position = position


class InvalidName(DueError):
    """A value is not a name."""

    def __init__(self, value):
        self.value = value


class InvalidPath(DueError):
    """A value is not a path of the network."""

    def __init__(self, position):
        self.position = position


class InvalidSplit(DueError):
    """A value is not a split of the path."""

    def __init__(self, position):
        self.position = position


class InvalidTime(DueError):
    """A value is not a time within which units may arrive."""

    def __init__(self, value):
        self.value = value


class InvalidTick(DueError):
    """A value is not a tick, or not in the range in which it must be."""

    def __init__(self, value):
        self.value = value


class InvalidFault(DueError):
    """Something with which a fault would be made is wrong."""

    def __init__(self, problem):
        self.problem = problem


class InvalidFaults(DueError):
    """A value is not a list of faults of the book."""

    def __init__(self, position):
        self.position = position


class InvalidHanded(DueError):
    """A value does not say how many units are handed in."""


class InvalidBook(DueError):
    """A book is not as it must be."""


class InvalidWeights(DueError):
    """A value does not give each stream a weight."""


class InvalidText(DueError):
    """A text is not that of a network or of a book."""

    def __init__(self, line):
        self.line = line


class InvalidCommand(DueError):
    """A value is not a command, or not a list of commands."""

    def __init__(self, value):
        self.value = value


class UnknownStation(LookupError):
    """A value is not the name of a station."""

    def __init__(self, value):
        self.value = value


class UnknownStream(LookupError):
    """A value is not the name of a stream."""

    def __init__(self, value):
        self.value = value


class UnknownUnit(LookupError):
    """A value is not the number of an entered unit."""

    def __init__(self, value):
        self.value = value


class NoLink(LookupError):
    """No link leads from one station to the other."""

    def __init__(self, source, target):
        self.source = source
        self.target = target


class NameTaken(RuntimeError):
    """Another stream has this name."""

    def __init__(self, taken):
        self.taken = taken


class NotGood(RuntimeError):
    """A curve is not good: this is its break."""

    def __init__(self, first, second):
        self.first = first
        self.second = second


class TooSlow(RuntimeError):
    """The total of a split is greater than the within."""

    def __init__(self, total):
        self.total = total


class Refused(RuntimeError):
    """A stream is refused: this shows the cause."""

    def __init__(self, refusal):
        self.refusal = refusal


class Overfull(RuntimeError):
    """A station would have an overfull window."""

    def __init__(self, at_station, window):
        self.at_station = at_station
        self.window = window


class NotPlain(RuntimeError):
    """A book is not plain."""


class HasReserves(RuntimeError):
    """A book has reserves, so it cannot be changed."""


class NoSplits(RuntimeError):
    """No splits of all streams exist: these cases show it."""

    def __init__(self, cases):
        self.cases = cases


class Exposed(RuntimeError):
    """A book would not be protected: this is its danger."""

    def __init__(self, danger):
        self.danger = danger


class NotLate(RuntimeError):
    """A unit was not late at the station."""

    def __init__(self, value):
        self.value = value


class RunFailed(RuntimeError):
    """A command of a run raised an error: it stands at this position."""

    def __init__(self, position, results):
        self.position = position
        self.results = results


class TooLong(ArithmeticError):
    """A curve has more values than can be written."""

    def __init__(self, limit):
        self.limit = limit


class TooMany(ArithmeticError):
    """There are more than so many."""

    def __init__(self, limit):
        self.limit = limit
