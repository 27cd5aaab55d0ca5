"""Which times are possible for a stream at the stations of a path, and the split with the least total."""

from dueways.margins import RoomMargin, TimeMargin
from dueways.network import total_of
from dueways.windows import needs_of


class Possible:
    """The possible times of a further life of a stream, from a begin on, at each station and shift.

    What was found once is kept, since many paths and splits lead to the same station and shift.
    """

    def __init__(self, book, name, curve, begin):
        self._book = book
        self._name = name
        self._curve = curve
        self._begin = begin
        self._bounds = {}
        self._margins = {}

    def beginning(self, begin):
        """Return the possible times from another begin on; the margins beyond the other streams are the same."""
        twin = Possible(self._book, self._name, self._curve, begin)
        twin._margins = self._margins
        return twin

    def low_and_high(self, station, shift):
        """Return the tuple (low, high) at a station and a shift."""
        asked = station, shift
        if asked not in self._bounds:
            time_margin, room_margin, visits = self._margins_at(station)
            low = time_margin.least_time(self._curve, visits, shift, self._begin)
            high = room_margin.greatest_time(self._curve, visits, shift, self._begin)
            self._bounds[asked] = (low, high)
        return self._bounds[asked]

    def times(self, station, shift):
        """Return the list of the possible times at a station and a shift."""
        low, high = self.low_and_high(station, shift)
        if low is None or high is None:
            return []
        return list(range(low, high + 1))

    def _margins_at(self, station):
        """Return the margins beyond the other streams, and the visits of the stream's own lives, at a station."""
        if station not in self._margins:
            loads = self._book.loads_of(station)
            needs = needs_of([load for name, load in loads if name != self._name])
            visits = [visit for name, load in loads if name == self._name for visit in load.visits()]
            room = self._book.network.find(station).room
            time_margin = TimeMargin(self._book.supply_of(station), needs)
            self._margins[station] = (time_margin, RoomMargin(room, needs), visits)
        return self._margins[station]


def split_within(possible, network, path, within, least=0):
    """Return what least_split does if its total is at most a within, or None."""
    split = least_split(possible, network, path, least)
    if split is None or total_of(network, path, split) > within:
        return None
    return split


def least_split(possible, network, path, least=0):
    """Return the split with possible times and the least total from a least one on, of these the least one, or None."""
    splits = least_rests(possible, network, path, 0, 0, {})
    totals = [total for total in splits if total >= least]
    if len(totals) == 0:
        return None
    return list(splits[min(totals)])


def least_rests(possible, network, path, index, shift, found):
    """Return the dict from how long it can take from the station with this index on to the least list of the times.

    What is found for an index and a shift is kept in the dict found.
    """
    asked = index, shift
    if asked in found:
        return found[asked]
    rests = {}
    for time in possible.times(path[index], shift):
        if index == len(path) - 1:
            rests[time] = [time]
        else:
            taken = time + network.link(path[index], path[index + 1])
            further = least_rests(possible, network, path, index + 1, shift + taken, found)
            for total, times in further.items():
                # The lesser times come first, so what was found first is the least one.
                rests.setdefault(taken + total, [time] + times)
    found[asked] = rests
    return rests
