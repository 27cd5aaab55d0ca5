"""Curves: how many units may enter in any number of successive ticks."""

from math import gcd, lcm

from dueways.counts import is_count, is_count_to, is_integer, require_count, require_count_to, rounded_up
from dueways.errors import InvalidCurve, InvalidLength, InvalidPiece, NotGood, TooLong
from dueways.forms import form_of_pieces, least_form, value_at

MAX_VALUES = 24
PERIODS = (1, 2, 3, 4, 6, 12)
MAX_VALUE = 2000
MAX_IN_PIECE = 60
MAX_LATER = 100


class Curve:
    """The greatest number of units that may enter in any t successive ticks, for each t.

    It is kept by its form, so equal curves are kept alike. It never changes.
    """

    def __init__(self, values, *, period=1, gain=0):
        wrong = find_problem(values, period, gain)
        if wrong is not None:
            raise InvalidCurve(wrong[0], wrong[1])
        form, least, step = least_form(values, period, gain)
        self._values = form
        self._period = least
        self._gain = step
        # Whether the break was looked for, and what was found: each load and stream asks for it.
        self._was_searched = False
        self._break = None

    @classmethod
    def of_pieces(cls, *pieces):
        """Return the curve that has at each length the least of the lines of the pieces."""
        wrong = find_wrong_piece(pieces)
        if wrong is not None:
            raise InvalidPiece(wrong)
        values, period, gain = form_of_pieces(pieces)
        if len(values) > MAX_VALUES:
            raise TooLong(MAX_VALUES)
        return cls(values, period=period, gain=gain)

    def __eq__(self, other):
        return (isinstance(other, Curve) and self._values == other._values
                and self._period == other._period and self._gain == other._gain)

    def __repr__(self):
        return f"Curve({self._values}, period={self._period}, gain={self._gain})"

    def __str__(self):
        return "/".join([",".join([str(value) for value in self._values]), str(self._period), str(self._gain)])

    def __add__(self, other):
        if not isinstance(other, Curve):
            return NotImplemented
        many, period = common_writing(self, other)
        values = [self.at(length) + other.at(length) for length in range(1, many + 1)]
        return make_curve(values, period, gain_in(self, period) + gain_in(other, period))

    @property
    def period(self):
        """The period of the form."""
        return self._period

    @property
    def gain(self):
        """The gain of the form."""
        return self._gain

    @property
    def rate(self):
        """The gain divided by the period, as a tuple of two counts in lowest terms."""
        common = gcd(self._gain, self._period)
        return self._gain // common, self._period // common

    def first_values(self):
        """Return the list of the form's values."""
        return list(self._values)

    def at(self, length):
        """Return the value at a length."""
        if not is_count(length):
            raise InvalidLength(length)
        return value_at(self._values, self._period, self._gain, length)

    def at_most(self, other):
        """Return whether this curve is at most the other one at every length."""
        many, period = common_writing(self, other)
        if gain_in(self, period) > gain_in(other, period):
            return False
        return all([self.at(length) <= other.at(length) for length in range(1, many + 1)])

    def find_break(self):
        """Return the break, the first (s, t) with a greater value at s + t than at s and t together, or None."""
        if not self._was_searched:
            self._break = first_break(self)
            self._was_searched = True
        return self._break

    def is_good(self):
        """Return whether the curve has no break."""
        return self.find_break() is None

    def later(self, ticks):
        """Return the curve later by so many ticks."""
        require_count_to(ticks, MAX_LATER)
        return make_curve([0] * ticks + self._values, self._period, self._gain)

    def first_above(self, capacity):
        """Return the least length t from 1 on with a value greater than capacity * t, or None."""
        require_count(capacity)
        for length, value in enumerate(self._values, start=1):
            if value > capacity * length:
                return length
        growth = self._gain - capacity * self._period
        if growth <= 0:
            return None
        # Each further length is one of the last period plus some periods, and in each the lack shrinks by growth.
        return min([last + self._period * ((capacity * last - self.at(last)) // growth + 1)
                    for last in self._last_lengths()])

    def shortest_for(self, units):
        """Return the least length from 0 on with a value of at least so many units, or None."""
        require_count(units)
        if units == 0:
            return 0
        for length, value in enumerate(self._values, start=1):
            if value >= units:
                return length
        if self._gain == 0:
            return None
        return min([last + self._period * rounded_up(units - self.at(last), self._gain)
                    for last in self._last_lengths()])

    def _last_lengths(self):
        """Return the list of the lengths of the last period that the form writes out."""
        many = len(self._values)
        return list(range(many - self._period + 1, many + 1))


def make_curve(values, period, gain):
    """Return the curve that is written so, also with more and greater values than a caller may write."""
    made = Curve([0])
    form, least, step = least_form(values, period, gain)
    made._values = form
    made._period = least
    made._gain = step
    return made


def first_break(curve):
    """Return the break of a curve, or None.

    Neither length is greater than the number of values: with t - period in place of t both sides would have the
    gain less, so there would be an earlier one.
    """
    many = len(curve.first_values())
    row = [curve.at(length) for length in range(2 * many + 1)]
    for total in range(2, 2 * many + 1):
        for first in range(max(1, total - many), total // 2 + 1):
            if row[total] > row[first] + row[total - first]:
                return first, total - first
    return None


def require_good(curve):
    """Raise NotGood, with the break, unless a curve is good."""
    found = curve.find_break()
    if found is not None:
        raise NotGood(found[0], found[1])


def find_problem(values, period, gain):
    """Return the first (problem, position) with which a caller may not write a curve so, or None."""
    if not isinstance(values, list):
        return "list", 0
    if not 1 <= len(values) <= MAX_VALUES:
        return "count", 0
    before = 0
    for position, value in enumerate(values):
        if not is_count_to(value, MAX_VALUE) or value < before:
            return "value", position
        before = value
    if not is_integer(period) or period not in PERIODS or period > len(values):
        return "period", 0
    if not is_count_to(gain, MAX_VALUE) or values[-period] + gain < values[-1]:
        return "gain", 0
    return None


def find_wrong_piece(pieces):
    """Return the position of the first value that is not a piece, 0 if there are no values, or None."""
    if len(pieces) == 0:
        return 0
    for position, piece in enumerate(pieces):
        if not is_piece(piece):
            return position
    return None


def is_piece(value):
    """Return whether a value is a tuple (burst, units, ticks) of counts, ticks being a period."""
    if not isinstance(value, tuple) or len(value) != 3:
        return False
    return all([is_count_to(part, MAX_IN_PIECE) for part in value]) and value[2] in PERIODS


def common_writing(one, other):
    """Return with how many values, and which period, each of two curves can be written."""
    period = lcm(one.period, other.period)
    many = max([len(curve.first_values()) - curve.period for curve in (one, other)])
    return many + period, period


def gain_in(curve, ticks):
    """Return the gain of a curve in so many ticks, some whole periods."""
    return curve.gain * (ticks // curve.period)
