"""Faults: how parts of a machine break their duties."""

from dueways.checks import is_name
from dueways.counts import is_count, is_count_to, is_integer
from dueways.errors import InvalidFault

MOST = 20
LAST_PLACE = 4


class Fault:
    """A fault of one of the four kinds below. It never changes."""

    def kind(self):
        """Return the kind of the fault."""
        raise NotImplementedError("only the four kinds of faults are used")


class Idle(Fault):
    """In this tick the station serves as if its capacity were less by the amount."""

    def __init__(self, station, tick, amount):
        if not is_name(station):
            raise InvalidFault("station")
        if not is_count(tick):
            raise InvalidFault("tick")
        if not is_amount(amount):
            raise InvalidFault("amount")
        self._station = station
        self._tick = tick
        self._amount = amount

    def __eq__(self, other):
        return (isinstance(other, Idle) and self._station == other._station and self._tick == other._tick
                and self._amount == other._amount)

    @property
    def station(self):
        """The name of the station."""
        return self._station

    @property
    def tick(self):
        """The tick."""
        return self._tick

    @property
    def amount(self):
        """By how much the capacity is less."""
        return self._amount

    def kind(self):
        """Return the kind of the fault."""
        return "idle"


class Swap(Fault):
    """In this tick the station serves the units that should be served last."""

    def __init__(self, station, tick):
        if not is_name(station):
            raise InvalidFault("station")
        if not is_count(tick):
            raise InvalidFault("tick")
        self._station = station
        self._tick = tick

    def __eq__(self, other):
        return isinstance(other, Swap) and self._station == other._station and self._tick == other._tick

    @property
    def station(self):
        """The name of the station."""
        return self._station

    @property
    def tick(self):
        """The tick."""
        return self._tick

    def kind(self):
        """Return the kind of the fault."""
        return "swap"


class Leak(Fault):
    """In this tick the police of the stream lets so many more units enter."""

    def __init__(self, stream, tick, amount):
        if not is_name(stream):
            raise InvalidFault("stream")
        if not is_count(tick):
            raise InvalidFault("tick")
        if not is_amount(amount):
            raise InvalidFault("amount")
        self._stream = stream
        self._tick = tick
        self._amount = amount

    def __eq__(self, other):
        return (isinstance(other, Leak) and self._stream == other._stream and self._tick == other._tick
                and self._amount == other._amount)

    @property
    def stream(self):
        """The name of the stream."""
        return self._stream

    @property
    def tick(self):
        """The tick."""
        return self._tick

    @property
    def amount(self):
        """How many more units enter."""
        return self._amount

    def kind(self):
        """Return the kind of the fault."""
        return "leak"


class Hold(Fault):
    """The unit with this number is released so many ticks later at this place in its path."""

    def __init__(self, stream, number, place, ticks):
        if not is_name(stream):
            raise InvalidFault("stream")
        if not is_count(number):
            raise InvalidFault("number")
        if not is_count_to(place, LAST_PLACE):
            raise InvalidFault("place")
        if not is_amount(ticks):
            raise InvalidFault("ticks")
        self._stream = stream
        self._number = number
        self._place = place
        self._ticks = ticks

    def __eq__(self, other):
        return (isinstance(other, Hold) and self._stream == other._stream and self._number == other._number
                and self._place == other._place and self._ticks == other._ticks)

    @property
    def stream(self):
        """The name of the stream."""
        return self._stream

    @property
    def number(self):
        """The number of the unit."""
        return self._number

    @property
    def place(self):
        """The index of the station in the unit's path."""
        return self._place

    @property
    def ticks(self):
        """How many ticks later it is released."""
        return self._ticks

    def kind(self):
        """Return the kind of the fault."""
        return "hold"


def is_amount(value):
    """Return whether a value is an amount of a fault, or a number of ticks."""
    return is_integer(value) and 1 <= value <= MOST
