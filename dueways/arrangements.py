"""Arrangements: the streams of a plain book, all of whose times are still to be found.

In a plain book shifts do not matter for windows and ticks that are late enough, and these need the most. So at a
station the demands in a window of a length are those of its visits, each with its curve later by its time less 1.
"""

from dueways.loads import MAX_TIME
from dueways.network import total_of


class Arrangement:
    """A network and streams (name, curve, path, within), with the result of each vector of times."""

    def __init__(self, network, streams):
        self._network = network
        self._streams = list(streams)
        # For each station its visits, as tuples (position in the vector, curve).
        self._passing = {station: [] for station in network.names()}
        self._size = 0
        for _, curve, path, _ in self._streams:
            for station in path:
                self._passing[station].append((self._size, curve))
                self._size += 1
        # A next vector changes one time, so for most stations the length was found before.
        self._lengths = {}

    def ones(self):
        """Return the vector of ones."""
        return (1,) * self._size

    def case_of(self, vector):
        """Return the result of a vector of times up to 13."""
        slow = self._first_slow(vector)
        if slow is not None:
            return "slow", slow
        for station, visits in self._passing.items():
            if sum([curve.at(vector[position]) for position, curve in visits]) > self._network.find(station).room:
                return "room", station
        for station in self._passing:
            length = self._overfull_length(station, vector)
            if length is not None:
                return "time", station, length, self._next_vectors(station, length, vector)
        return ("safe",)

    def splits(self, vector):
        """Return the list of the splits of the streams in a vector."""
        found = []
        behind = 0
        for _, _, path, _ in self._streams:
            found.append(vector[behind:behind + len(path)])
            behind += len(path)
        return found

    def _first_slow(self, vector):
        """Return the name of the first stream with too great a time or total, or None."""
        for (name, _, path, within), split in zip(self._streams, self.splits(vector)):
            if max(split) > MAX_TIME or total_of(self._network, path, split) > within:
                return name
        return None

    def _overfull_length(self, station, vector):
        """Return the length of the first overfull window of a station, or None."""
        visits = self._passing[station]
        asked = station, tuple([vector[position] for position, _ in visits])
        if asked not in self._lengths:
            capacity = self._network.find(station).capacity
            self._lengths[asked] = first_length([curve.later(vector[position] - 1) for position, curve in visits],
                                                capacity)
        return self._lengths[asked]

    def _next_vectors(self, station, length, vector):
        """Return the tuple of the vectors in which one visit's time is the least one with a lesser demand."""
        found = []
        for position, curve in self._passing[station]:
            time = vector[position]
            if time <= length:
                found.append(vector[:position] + (next_time(curve, length, time),) + vector[position + 1:])
        return tuple(found)


def first_length(curves, capacity):
    """Return the least length at which some curves together have more than can be served, or None."""
    if len(curves) == 0:
        return None
    total = curves[0]
    for curve in curves[1:]:
        total = total + curve
    return total.first_above(capacity)


def next_time(curve, length, time):
    """Return the least greater time with a lesser demand in windows of a length, 13 if there is none."""
    demand = demand_of(curve, length, time)
    for greater in range(time + 1, MAX_TIME + 1):
        if demand_of(curve, length, greater) < demand:
            return greater
    return MAX_TIME + 1


def demand_of(curve, length, time):
    """Return the demand of a visit with a time in windows of a length."""
    return curve.at(max(0, length - time + 1))
