"""Visits and loads: how the units of a stream pass a station, and how many of them can be urgent there."""

from dueways.checks import MAX_TICK, require_window
from dueways.counts import is_count_to, is_integer
from dueways.curves import require_good
from dueways.errors import InvalidVisit, InvalidVisits
from dueways.matchings import fullest, least_cost, least_matching
from dueways.stretches import urgent_stretch, urgent_stretches

MAX_TIME = 12
MAX_VISITS = 4


class Visit:
    """How the units of one stream pass a station. It never changes."""

    def __init__(self, time, *, shift=0, begin=0, end=None):
        wrong = find_visit_problem(time, shift, begin, end)
        if wrong is not None:
            raise InvalidVisit(wrong)
        self._time = time
        self._shift = shift
        self._begin = begin
        self._end = end

    def __eq__(self, other):
        return (isinstance(other, Visit) and self._time == other._time and self._shift == other._shift
                and self._begin == other._begin and self._end == other._end)

    def __repr__(self):
        return f"Visit({self._time}, shift={self._shift}, begin={self._begin}, end={self._end})"

    @property
    def time(self):
        """In how many ticks from its release on a unit must be served."""
        return self._time

    @property
    def shift(self):
        """How many ticks after its entry a unit is released."""
        return self._shift

    @property
    def begin(self):
        """The first entry tick."""
        return self._begin

    @property
    def end(self):
        """The tick from which on no units enter, or None."""
        return self._end


class Load:
    """A good curve and the visits of one station by the units of a record that keeps it. It never changes."""

    def __init__(self, curve, visits):
        require_good(curve)
        wrong = find_wrong_visit(visits)
        if wrong is not None:
            raise InvalidVisits(wrong)
        self._curve = curve
        self._visits = list(visits)

    @property
    def curve(self):
        """The curve."""
        return self._curve

    def visits(self):
        """Return the list of the visits."""
        return list(self._visits)


def stretch(visit, start, end):
    """Return the (first, behind) of the entry ticks of the units that are urgent in a window, or None."""
    require_window(start, end)
    return urgent_stretch(visit, start, end)


def demand(load, start, end):
    """Return the greatest number of units of a load that can be urgent in a window."""
    require_window(start, end)
    return least_cost(load.curve, urgent_stretches(load.visits(), start, end))


def matching(load, start, end):
    """Return the matches (first, behind) of a least matching of the stretches in a window."""
    require_window(start, end)
    return least_matching(load.curve, urgent_stretches(load.visits(), start, end))


def full_record(load, start, end):
    """Return a (tick, record) with as many units of a load urgent in a window as there can be."""
    require_window(start, end)
    return fullest(load.curve, urgent_stretches(load.visits(), start, end))


def find_visit_problem(time, shift, begin, end):
    """Return the name of the first value with which no visit can be made, or None."""
    if not is_integer(time) or not 1 <= time <= MAX_TIME:
        return "time"
    if not is_count_to(shift, MAX_TICK):
        return "shift"
    if not is_count_to(begin, MAX_TICK):
        return "begin"
    if end is not None and (not is_count_to(end, MAX_TICK) or end < begin):
        return "end"
    return None


def find_wrong_visit(visits):
    """Return the position of the first value that is not a visit, 0 if this is no list of some, or None."""
    if not isinstance(visits, list) or not 1 <= len(visits) <= MAX_VISITS:
        return 0
    for position, visit in enumerate(visits):
        if not isinstance(visit, Visit):
            return position
    return None
