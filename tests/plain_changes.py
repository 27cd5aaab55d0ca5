"""What the document says of changes of books, by trying all ticks, splits and sets of streams."""

from itertools import chain, combinations, product

from dueways.loads import Load, Visit
from dueways.supply import Supply
from dueways.windows import crowded, overfull
from plain_admission import Tried


def with_lives(book, name, lives, within=None):
    """Return a copy of a book in which a stream has these lives."""
    twin = book.clone()
    twin.put_stream(name, book.curve_of(name), book.within_of(name) if within is None else within, lives)
    return twin


def ended(book, name, at):
    """Return a copy of a book in which the last life of a stream ends at a tick."""
    lives = book.lives_of(name)
    begin, _, path, split = lives[-1]
    return with_lives(book, name, lives[:-1] + [(begin, at, path, split)])


def with_change(book, station, at, capacity):
    """Return a copy of a book in which a capacity changes."""
    twin = book.clone()
    twin.put_changes(station, book.supply_of(station).changes() + [(at, capacity)])
    return twin


def window(book, station):
    """Return the first overfull window of a station of a book."""
    return overfull(book.supply_of(station), [load for _, load in book.loads_of(station)])


def shifts(network, path, split):
    found = [0]
    for index in range(1, len(path)):
        found.append(found[-1] + split[index - 1] + network.link(path[index - 1], path[index]))
    return found


def total(network, path, split):
    return shifts(network, path, split)[-1] + split[-1]


class TriedFurther(Tried):
    """The low and high of a further life of a stream whose last life ended, by trying all times."""

    def __init__(self, book, name, begin):
        super().__init__(book, book.curve_of(name), begin)
        self.name = name

    def loads(self, station, shift, time):
        own = [visit for name, load in self.book.loads_of(station) if name == self.name for visit in load.visits()]
        visits = own + [Visit(time, shift=shift, begin=self.begin)]
        return [load for name, load in self.book.loads_of(station) if name != self.name] + [Load(self.curve, visits)]


def rerouted(book, name, path, within, at, until):
    """Return (begin, split, book) by trying all ticks and splits, or None."""
    old = ended(book, name, at)
    for begin in range(at, until + 1):
        tried = TriedFurther(old, name, begin)
        found = []
        for split in tried.splits(path):
            arrival = begin + tried.total(path, split)
            in_time = all(arrival >= end - 1 + total(book.network, way, times)
                          for start, end, way, times in old.lives_of(name) if start < end)
            if in_time:
                found.append((tried.total(path, split), split))
        if found and min(found)[0] <= within:
            split = min(found)[1]
            lives = old.lives_of(name) + [(begin, None, tuple(path), tuple(split))]
            return begin, list(split), with_lives(old, name, lives, within)
    return None


def may_end(book, station, at):
    """Return the names of the streams that shedding may end."""
    found = []
    for name in book.names():
        begin, end, path, _ = book.lives_of(name)[-1]
        if station in path and begin <= at and (end is None or at < end):
            found.append(name)
    return found


def shed_book(book, station, at, capacity, weights):
    """Return (names, book) by trying all sets of streams, or None."""
    names = may_end(book, station, at)
    found = []
    for chosen in chain.from_iterable(combinations(names, many) for many in range(len(names) + 1)):
        twin = with_change(book, station, at, capacity)
        for name in chosen:
            twin = ended(twin, name, at)
        if window(twin, station) is None:
            found.append((sum(weights[name] for name in chosen), len(chosen), sorted(chosen), twin))
    if not found:
        return None
    _, _, chosen, twin = min(found, key=lambda one: one[:3])
    return chosen, twin
