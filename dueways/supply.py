"""Supplies: how many units a station can serve in each tick."""

from dueways.checks import MAX_TICK, require_tick, require_window
from dueways.counts import is_count_to, require_count_to
from dueways.errors import InvalidSupply

MAX_CAPACITY = 20


class Supply:
    """A capacity from tick 0 on, and its changes. It never changes itself."""

    def __init__(self, capacity, changes=()):
        require_count_to(capacity, MAX_CAPACITY)
        wrong = find_wrong_change(changes)
        if wrong is not None:
            raise InvalidSupply(wrong)
        self._first = capacity
        self._changes = kept_changes(capacity, changes)
        # How many units can be served before each tick up to the last change; from there on the last capacity is.
        self._sums = sums_to_last(capacity, self._changes)
        self._last = self._changes[-1][1] if self._changes else capacity

    def __eq__(self, other):
        return isinstance(other, Supply) and self._first == other._first and self._changes == other._changes

    def at(self, tick):
        """Return the capacity at a tick."""
        require_tick(tick)
        return self._before(tick + 1) - self._before(tick)

    def between(self, start, end):
        """Return the sum of the capacities in a window."""
        require_window(start, end)
        return self._before(end) - self._before(start)

    def changes(self):
        """Return the list of the changes, without those to the capacity that it has anyway."""
        return list(self._changes)

    def _before(self, tick):
        """Return the sum of the capacities of all ticks before this one."""
        last = len(self._sums) - 1
        if tick <= last:
            return self._sums[tick]
        return self._sums[last] + (tick - last) * self._last


def kept_changes(capacity, changes):
    """Return the list of the changes without those to the capacity that it has anyway."""
    kept = []
    before = capacity
    for tick, after in changes:
        if after != before:
            kept.append((tick, after))
        before = after
    return kept


def sums_to_last(capacity, changes):
    """Return the list of the sums of the capacities before each tick up to that of the last change."""
    sums = [0]
    before = capacity
    for tick, after in changes:
        while len(sums) <= tick:
            sums.append(sums[-1] + before)
        before = after
    return sums


def find_wrong_change(changes):
    """Return the position of the first value that is not a change, 0 if this is no list or tuple, or None."""
    if not isinstance(changes, (list, tuple)):
        return 0
    before = 0
    for position, change in enumerate(changes):
        if not is_change(change) or change[0] <= before:
            return position
        before = change[0]
    return None


def is_change(value):
    """Return whether a value is a tuple of a tick and a capacity."""
    if not isinstance(value, tuple) or len(value) != 2:
        return False
    return is_count_to(value[0], MAX_TICK) and is_count_to(value[1], MAX_CAPACITY)
