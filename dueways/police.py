"""The police of a stream: it lets units enter as its curve allows."""

from dueways.counts import require_count
from dueways.curves import require_good
from dueways.records import free_after


class Police:
    """A good curve, a queue, and what entered in the ticks so far."""

    def __init__(self, curve, *, queue=60):
        require_good(curve)
        require_count(queue)
        self._curve = curve
        self._queue = queue
        self._held = 0
        self._returned = 0
        self._entered = []
        self._was_closed = False
        # The curve's values at the lengths from 1 to the number of ticks: each tick needs all of them.
        self._limits = []

    @property
    def held(self):
        """How many units wait."""
        return self._held

    @property
    def queue(self):
        """How many units can wait."""
        return self._queue

    @property
    def returned(self):
        """How many units were returned so far."""
        return self._returned

    def step(self, units, *, leak=0, closed=False):
        """Do one tick in which so many units are handed in; return the tuple (entered, returned)."""
        require_count(units)
        require_count(leak)
        self._limits.append(self._curve.at(len(self._entered) + 1))
        there = self._held + units
        entered = 0
        if not closed:
            allowed = max(0, free_after(self._entered, self._limits))
            entered = min(there, allowed + leak)
        left = there - entered
        self._held = min(left, self._queue)
        returned = left - self._held
        self._returned += returned
        self._entered.append(entered)
        self._was_closed = closed
        return entered, returned

    def record(self):
        """Return the entered units of all ticks so far."""
        return list(self._entered)

    def binding(self):
        """Return the (length, start) of the shortest window because of which units wait, or None."""
        if self._held == 0 or self._was_closed:
            return None
        units = 0
        for length, entered in enumerate(reversed(self._entered), start=1):
            units += entered
            if units + 1 > self._curve.at(length):
                return length, len(self._entered) - length
        return None

    def clone(self):
        """Return an independent copy."""
        twin = Police(self._curve, queue=self._queue)
        twin._held = self._held
        twin._returned = self._returned
        twin._entered = list(self._entered)
        twin._was_closed = self._was_closed
        twin._limits = list(self._limits)
        return twin
