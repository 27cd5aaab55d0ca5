"""What the document says of admission, by trying all times, splits and paths."""

from itertools import permutations, product

from dueways.loads import Load, Visit
from dueways.windows import crowded, overfull


class Tried:
    """The low and high of a new stream by trying all times."""

    def __init__(self, book, curve, begin):
        self.book, self.curve, self.begin, self.found = book, curve, begin, {}

    def loads(self, station, shift, time):
        others = [load for _, load in self.book.loads_of(station)]
        return others + [Load(self.curve, [Visit(time, shift=shift, begin=self.begin)])]

    def window(self, station, shift, time):
        return overfull(self.book.supply_of(station), self.loads(station, shift, time))

    def tick(self, station, shift, time):
        return crowded(self.book.network.find(station).room, self.loads(station, shift, time))

    def bounds(self, station, shift):
        """Return the tuple (low, high)."""
        if (station, shift) not in self.found:
            low = [time for time in range(1, 13) if self.window(station, shift, time) is None]
            high = [time for time in range(1, 13) if self.tick(station, shift, time) is None]
            self.found[station, shift] = (min(low, default=None), max(high, default=None))
        return self.found[station, shift]

    def is_possible(self, station, shift, time):
        low, high = self.bounds(station, shift)
        return low is not None and high is not None and low <= time <= high

    def shifts(self, path, split):
        shifts = [0]
        for index in range(1, len(path)):
            shifts.append(shifts[-1] + split[index - 1] + self.book.network.link(path[index - 1], path[index]))
        return shifts

    def total(self, path, split):
        return self.shifts(path, split)[-1] + split[-1]

    def splits(self, path):
        """Return all splits of a path whose times are possible at their shifts, trying all times."""
        return [split for split in product(range(1, 13), repeat=len(path))
                if all(self.is_possible(station, shift, time)
                       for station, shift, time in zip(path, self.shifts(path, split), split))]

    def best(self, path):
        """Return the split with the least total, at a tie the least one, or None."""
        splits = self.splits(path)
        return min(splits, key=lambda split: (self.total(path, split), split)) if splits else None

    def table(self, path, within):
        """Return the table of a refusal."""
        table, todo = {}, [(0, 0)]
        while todo:
            index, shift = todo.pop()
            table[index, shift] = self.bounds(path[index], shift)
            if index + 1 < len(path):
                length = self.book.network.link(path[index], path[index + 1])
                todo += [(index + 1, shift + time + length) for time in range(1, 13)
                         if self.is_possible(path[index], shift, time) and shift + time + length < within]
        return table


def paths(network, source, target):
    """Return all paths from a station to another one."""
    found = []
    for many in range(1, min(5, len(network.names())) + 1):
        for path in permutations(network.names(), many):
            pairs = [link[:2] for link in network.links()]
            if path[0] == source and path[-1] == target and all(pair in pairs for pair in zip(path, path[1:])):
                found.append(list(path))
    return found
