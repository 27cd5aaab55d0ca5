"""What the document says of the splits of all streams of a plain book, plainly: cases by recursion, and all splits."""

from itertools import product

from dueways.loads import Load, Visit
from dueways.supply import Supply
from dueways.windows import crowded, overfull


class PlainCases:
    """The streams (name, curve, path, within) of a plain book with a new one, and the cases of their vectors."""

    def __init__(self, book, name, curve, path, within):
        self.network = book.network
        self.streams = [(one, book.curve_of(one), list(book.lives_of(one)[0][2]), book.within_of(one))
                        for one in book.names()] + [(name, curve, list(path), within)]
        self.found = {}

    def splits(self, vector):
        found, left = [], list(vector)
        for _, _, path, _ in self.streams:
            found.append(left[:len(path)])
            left = left[len(path):]
        return found

    def shifts(self, path, split):
        shifts = [0]
        for index in range(1, len(path)):
            shifts.append(shifts[-1] + split[index - 1] + self.network.link(path[index - 1], path[index]))
        return shifts

    def visits(self, station, vector):
        """Return the (position, curve, time, shift) of the visits of a station."""
        found, position = [], 0
        for (_, curve, path, _), split in zip(self.streams, self.splits(vector)):
            for name, time, shift in zip(path, split, self.shifts(path, split)):
                if name == station:
                    found.append((position, curve, time, shift))
                position += 1
        return found

    def loads(self, station, vector):
        return [Load(curve, [Visit(time, shift=shift)]) for _, curve, time, shift in self.visits(station, vector)]

    def result(self, vector):
        """Return the result of a case by looking for windows and ticks."""
        for (name, _, path, within), split in zip(self.streams, self.splits(vector)):
            if 13 in split or self.shifts(path, split)[-1] + split[-1] > within:
                return "slow", name
        for station in self.network.names():
            if crowded(self.network.find(station).room, self.loads(station, vector)) is not None:
                return "room", station
        for station in self.network.names():
            window = overfull(Supply(self.network.find(station).capacity), self.loads(station, vector))
            if window is not None:
                length = window[1] - window[0]
                following = []
                for position, curve, time, _ in self.visits(station, vector):
                    if time <= length:
                        better = [other for other in range(time + 1, 13)
                                  if self.demand(curve, other, length) < self.demand(curve, time, length)]
                        changed = list(vector)
                        changed[position] = min(better, default=13)
                        following.append(tuple(changed))
                return "time", station, length, tuple(following)
        return ("safe",)

    def demand(self, curve, time, length):
        return 0 if time > length else curve.at(length - time + 1)

    def search(self, vector):
        """Search a vector and what follows; return whether the search has ended."""
        if vector in self.found:
            return False
        if len(self.found) == 400:
            raise OverflowError
        self.found[vector] = self.result(vector)
        if self.found[vector] == ("safe",):
            return True
        if self.found[vector][0] == "time":
            for following in self.found[vector][3]:
                if self.search(following):
                    return True
        return False

    def ones(self):
        return tuple(1 for _, _, path, _ in self.streams for _ in path)


def searched(book, name, curve, path, within):
    """Return (cases, the safe vector or None), or None if there are too many cases."""
    plain = PlainCases(book, name, curve, path, within)
    try:
        plain.search(plain.ones())
    except OverflowError:
        return None
    safe = [vector for vector, result in plain.found.items() if result == ("safe",)]
    return plain.found, (safe[0] if safe else None)


def all_safe(book, name, curve, path, within, most):
    """Return the vectors of times up to this one with which the book would be safe, by trying all."""
    plain = PlainCases(book, name, curve, path, within)
    return [vector for vector in product(range(1, most + 1), repeat=len(plain.ones()))
            if plain.result(vector) == ("safe",)]
