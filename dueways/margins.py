"""What a station can serve, and has places for, beyond what some loads need, and what is possible within this.

Loads are given here as needs: tuples (curve, visits).
"""

from dueways.crucial import (ROUND, crucial_lengths, crucial_starts, crucial_ticks, growth, hull_of, longest_length,
                             most_urgent, turning_ticks)
from dueways.loads import MAX_TIME, Visit
from dueways.matchings import least_cost
from dueways.stretches import placed_stretches, urgent_stretches


class TimeMargin:
    """How many more units than some needs a supply can serve in each window.

    What was found once is kept, since for one new stream the same windows are asked for again and again.
    """

    def __init__(self, supply, needs):
        self._supply = supply
        self._needs = list(needs)
        self._ticks = turning_ticks(supply, needs)
        self._found = {}
        self._least = {}

    def least_left(self, length):
        """Return the least of what is left in all windows of a length."""
        if length not in self._least:
            self._least[length] = min([self.left(start, length) for start in crucial_starts(self._ticks, length)])
        return self._least[length]

    def left(self, start, length):
        """Return how many more units can be served in a window of a length, below 0 if it is overfull."""
        asked = start, length
        if asked not in self._found:
            end = start + length
            urgent = [least_cost(curve, urgent_stretches(visits, start, end)) for curve, visits in self._needs]
            self._found[asked] = self._supply.between(start, end) - sum(urgent)
        return self._found[asked]

    def find_overfull(self):
        """Return the first overfull window (start, end), or None."""
        for length in crucial_lengths(self._supply, self._needs):
            for start in crucial_starts(self._ticks, length):
                if self.left(start, length) < 0:
                    return start, start + length
        step = growth(self._supply, self._needs)
        if step <= 0:
            return None
        return self._far_overfull(step)

    def _far_overfull(self, step):
        """Return the first overfull window if no window is overfull up to the longest one of those that matter.

        From there on a window that is longer by a round has less left, by this step.
        """
        longest = longest_length(self._supply, self._needs)
        found = []
        for length in range(longest + 1, longest + ROUND + 1):
            for start in crucial_starts(self._ticks, length):
                rounds = max(0, self.left(start, length) // step + 1)
                found.append((length + rounds * ROUND, start))
        length, start = min(found)
        return start, start + length

    def least_time(self, curve, visits, shift, begin):
        """Return the least time of a further visit with which no window is overfull, or None.

        The units of this curve have the given visits, and the further one has no end.
        """
        time = 1
        now = visits + [Visit(time, shift=shift, begin=begin)]
        needs = self._needs + [(curve, now)]
        if growth(self._supply, needs) > 0:
            return None
        ticks = turning_ticks(self._supply, needs)
        for length in crucial_lengths(self._supply, needs):
            if most_urgent([(curve, now)], [hull_of(now)], length) <= self.least_left(length):
                continue
            for start in crucial_starts(ticks, length):
                left = self.left(start, length)
                # With a greater time no window has more urgent units, so those before need no second look.
                while least_cost(curve, urgent_stretches(now, start, start + length)) > left:
                    if time == MAX_TIME:
                        return None
                    time += 1
                    now = visits + [Visit(time, shift=shift, begin=begin)]
        return time


class RoomMargin:
    """How many more units than some needs a room has places for in each tick; what was found once is kept."""

    def __init__(self, room, needs):
        self._room = room
        self._needs = list(needs)
        self._found = {}

    def left(self, tick):
        """Return how many more places there are in a tick, below 0 if it is crowded."""
        if tick not in self._found:
            placed = [least_cost(curve, placed_stretches(visits, tick)) for curve, visits in self._needs]
            self._found[tick] = self._room - sum(placed)
        return self._found[tick]

    def find_crowded(self):
        """Return the first crowded tick, or None."""
        for tick in crucial_ticks(self._needs):
            if self.left(tick) < 0:
                return tick
        return None

    def greatest_time(self, curve, visits, shift, begin):
        """Return the greatest time of a further visit with which no tick is crowded, or None."""
        time = MAX_TIME
        now = visits + [Visit(time, shift=shift, begin=begin)]
        for tick in crucial_ticks(self._needs + [(curve, now)]):
            left = self.left(tick)
            while least_cost(curve, placed_stretches(now, tick)) > left:
                if time == 1:
                    return None
                time -= 1
                now = visits + [Visit(time, shift=shift, begin=begin)]
        return time
