"""Records: how many units enter in each tick."""

from dueways.counts import is_count, require_count_to
from dueways.curves import make_curve, require_good
from dueways.errors import InvalidLength, InvalidRecord

MAX_TICKS = 400


def most_in(record, length):
    """Return the greatest number of units in so many successive ticks."""
    require_record(record)
    if not is_count(length):
        raise InvalidLength(length)
    return max(window_sums(sums_before(record), min(length, len(record))))


def keeps(record, curve):
    """Return whether a record keeps a curve."""
    return breach(record, curve) is None


def breach(record, curve):
    """Return the (length, start, extra) of the first of the shortest windows with too many units, or None."""
    require_record(record)
    sums = sums_before(record)
    # No window that reaches behind the record is needed: it has no further units, and a curve never falls.
    for length in range(1, len(record) + 1):
        most = curve.at(length)
        for start, units in enumerate(window_sums(sums, length)):
            if units > most:
                return length, start, units - most
    return None


def tightest(record):
    """Return the least curve that a record keeps."""
    require_record(record)
    sums = sums_before(record)
    values = [max(window_sums(sums, length)) for length in range(1, len(record) + 1)]
    # A record may have no ticks, but a curve has at least one value.
    return make_curve(values or [0], 1, 0)


def greedy(curve, ticks):
    """Return the record of so many ticks in which as many units enter as early as a good curve allows."""
    require_good(curve)
    require_count_to(ticks, MAX_TICKS)
    return [curve.at(tick + 1) - curve.at(tick) for tick in range(ticks)]


def shaped(record, curve):
    """Return the record in which the units of a record enter as early as a good curve allows."""
    require_record(record)
    require_good(curve)
    limits = [curve.at(length) for length in range(1, len(record) + 1)]
    entered = []
    waiting = 0
    for units in record:
        waiting += units
        entering = min(waiting, free_after(entered, limits))
        waiting -= entering
        entered.append(entering)
    return entered


def require_record(record):
    """Raise InvalidRecord unless a value is a record."""
    if not isinstance(record, list):
        raise InvalidRecord(0)
    for position, units in enumerate(record):
        if not is_count(units):
            raise InvalidRecord(position)


def sums_before(record):
    """Return the list of how many units enter before each tick of a record, and in all of it."""
    sums = [0]
    for units in record:
        sums.append(sums[-1] + units)
    return sums


def window_sums(sums, length):
    """Return the list of how many units enter in each window of a length within a record, by their starts."""
    return [sums[start + length] - sums[start] for start in range(len(sums) - length)]


def free_after(record, limits):
    """Return how many units may enter in the tick after a record such that no window ending there has too many.

    The limits are a curve's values at the lengths from 1 on. The result is below 0 if a window has too many
    anyway.
    """
    free = limits[0]
    units = 0
    for length, entered in enumerate(reversed(record), start=1):
        units += entered
        free = min(free, limits[length] - units)
    return free
