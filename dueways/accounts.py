"""Accounts of machines: what entered, what was needed, and what a fault changed."""

from dueways.counts import is_count
from dueways.errors import InvalidCount
from dueways.records import tightest


def own_curve(machine, stream):
    """Return the tightest curve of the entered record of a stream."""
    return tightest(machine.entered(stream))


def needed(machine, station):
    """Return the greatest number of units of streams that a station served in one tick."""
    units = {}
    for tick, _, _ in machine.served(station):
        units[tick] = units.get(tick, 0) + 1
    return max(list(units.values()), default=0)


def spared(machine, index):
    """Return the list of the elements of late() whose unit is not late at this station without a fault."""
    faults = machine.faults()
    if not is_count(index) or index >= len(faults):
        raise InvalidCount(index)
    other = machine.repeated(faults[:index] + faults[index + 1:])
    still = {one[1:]: True for one in other.late()}
    return [one for one in machine.late() if one[1:] not in still]
