"""Windows and ticks of a station: which one is overfull or crowded first."""

from dueways.checks import is_window, require_tick, require_window
from dueways.counts import require_count
from dueways.loads import demand
from dueways.margins import RoomMargin, TimeMargin
from dueways.matchings import fullest, least_cost
from dueways.stretches import placed_stretches


def demands(loads, start, end):
    """Return the list of the demands of some loads in a window."""
    require_window(start, end)
    return [demand(load, start, end) for load in loads]


def overfull(supply, loads):
    """Return the first overfull window (start, end), or None."""
    return TimeMargin(supply, needs_of(loads)).find_overfull()


def is_overfull(supply, loads, value):
    """Return whether a value is an overfull window."""
    if not isinstance(value, tuple) or len(value) != 2:
        return False
    start, end = value
    return is_window(start, end) and sum(demands(loads, start, end)) > supply.between(start, end)


def places(loads, tick):
    """Return the list of the places that each of some loads needs in a tick."""
    require_tick(tick)
    return [least_cost(load.curve, placed_stretches(load.visits(), tick)) for load in loads]


def crowded(room, loads):
    """Return the first tick in which some loads need more places than there are, or None."""
    require_count(room)
    return RoomMargin(room, needs_of(loads)).find_crowded()


def full_tick(load, tick):
    """Return a (tick, record) with as many units of a load in their places in a tick as there can be."""
    require_tick(tick)
    return fullest_in(load, tick)


def fullest_in(load, tick):
    """Return what full_tick does, also for a tick that is later than those that callers may pass."""
    return fullest(load.curve, placed_stretches(load.visits(), tick))


def needs_of(loads):
    """Return the list of the tuples (curve, visits) of some loads."""
    return [(load.curve, load.visits()) for load in loads]
