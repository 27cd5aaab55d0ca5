"""Admission: a stream gets the times with which no unit is ever late, or a refusal shows why there are none."""

from dueways.checks import is_name, require_tick
from dueways.counts import is_count_to
from dueways.curves import MAX_VALUES, find_problem, require_good
from dueways.errors import InvalidName, InvalidSplit, InvalidTime, NameTaken, Refused, TooLong, TooMany, TooSlow
from dueways.loads import Load, Visit, full_record
from dueways.network import MAX_PATH, check_split, shifts_of, total_of
from dueways.splits import Possible, least_split, split_within
from dueways.windows import crowded, fullest_in, overfull

MAX_WITHIN = 100
MAX_STREAMS = 10


class Refusal:
    """Why a stream cannot be admitted: for each split within its time a station where a time is not possible."""

    def __init__(self, book, name, curve, path, within, begin, split):
        self._book = book.clone()
        self._name = name
        self._curve = curve
        self._path = list(path)
        self._within = within
        self._begin = begin
        # The only split that the refusal is about, or None.
        self._split = None if split is None else list(split)
        self._possible = Possible(self._book, name, curve, begin)

    @property
    def name(self):
        """The name of the refused stream."""
        return self._name

    @property
    def within(self):
        """The within of the refused stream."""
        return self._within

    @property
    def begin(self):
        """The tick from which on the stream is refused."""
        return self._begin

    def path(self):
        """Return the path of the refused stream."""
        return list(self._path)

    def table(self):
        """Return the dict from (index, shift) to (low, high)."""
        if self._split is not None:
            return {}
        return bounds_table(self._possible, self._book.network, self._path, self._within)

    def trouble(self, split):
        """Return the trouble of a split, at the first station whose time is not possible."""
        index, shift = self._first_impossible(split)
        station = self._path[index]
        loads = [load for _, load in self._loads_with(station, split[index], shift)]
        window = overfull(self._book.supply_of(station), loads)
        if window is not None:
            return "time", station, window[0], window[1]
        tick = crowded(self._book.network.find(station).room, loads)
        return "room", station, tick, tick + 1

    def run(self, split):
        """Return the run of a split: how units enter such that the station of its trouble has too many."""
        kind, station, start, end = self.trouble(split)
        index, shift = self._first_impossible(split)
        found = {self._name: (self._begin, [])}
        for name, load in self._loads_with(station, split[index], shift):
            told = full_record(load, start, end) if kind == "time" else fullest_in(load, start)
            if len(told[1]) > 0:
                found[name] = told
        return found

    def _first_impossible(self, split):
        """Return the (index, shift) of the first station whose time in a split is not possible."""
        total = check_split(self._book.network, self._path, split)
        if total > self._within:
            raise TooSlow(total)
        if self._split is not None and split != self._split:
            raise InvalidSplit(0)
        return first_impossible(self._possible, self._book.network, self._path, split)

    def _loads_with(self, station, time, shift):
        """Return the list of the (name, load) of a station, that of the refused stream being the last one."""
        visit = Visit(time, shift=shift, begin=self._begin)
        return self._book.loads_of(station) + [(self._name, Load(self._curve, [visit]))]


def admit(book, name, curve, path, within, *, begin=0, split=None):
    """Admit a stream to a book from a tick on; return its split."""
    require_admissible(book, name, curve, path, within, begin)
    found = find_split(book, name, curve, path, within, begin, split)
    book.put_stream(name, curve, within, [(begin, None, tuple(path), tuple(found))])
    return found


def find_split(book, name, curve, path, within, begin, split):
    """Return the split with which a stream can be admitted, the given one if it is not None, or raise Refused."""
    possible = Possible(book, name, curve, begin)
    if split is None:
        found = split_within(possible, book.network, path, within)
    else:
        found = given_split(possible, book.network, path, within, split)
    if found is None:
        raise Refused(Refusal(book, name, curve, path, within, begin, split))
    return found


def given_split(possible, network, path, within, split):
    """Return a copy of a split if its times are possible, or None; raise an error if it is none of this within."""
    total = check_split(network, path, split)
    if total > within:
        raise TooSlow(total)
    if first_impossible(possible, network, path, split) is not None:
        return None
    return list(split)


def least_total(book, curve, path, *, begin=0):
    """Return the least total of a path for a curve and a begin, or None."""
    require_good(curve)
    book.network.check_path(path)
    require_tick(begin)
    split = least_split(Possible(book, None, curve, begin), book.network, path)
    if split is None:
        return None
    return total_of(book.network, path, split)


def fastest(book, curve, source, target, *, begin=0):
    """Return the (total, path) of the fastest path from a station to another one, or None."""
    require_good(curve)
    book.network.find(source)
    book.network.find(target)
    require_tick(begin)
    possible = Possible(book, None, curve, begin)
    found = []
    for path in paths_between(book.network, [source], target):
        split = least_split(possible, book.network, path)
        if split is not None:
            found.append((total_of(book.network, path, split), len(path), path))
    if len(found) == 0:
        return None
    total, _, path = min(found)
    return total, path


def paths_between(network, before, target):
    """Return the list of the paths that begin with these stations and end at a station."""
    last = before[-1]
    if last == target:
        return [before]
    if len(before) == MAX_PATH:
        return []
    found = []
    for source, following, _ in network.links():
        if source == last and following not in before:
            found.extend(paths_between(network, before + [following], target))
    return found


def bounds_table(possible, network, path, within):
    """Return the dict from the (index, shift) to which possible times lead below the within to (low, high)."""
    table = {}
    shifts = [0]
    for index, station in enumerate(path):
        reached = {}
        for shift in shifts:
            table[(index, shift)] = possible.low_and_high(station, shift)
            if index + 1 < len(path):
                link = network.link(station, path[index + 1])
                for time in possible.times(station, shift):
                    reached[shift + time + link] = True
        shifts = sorted([shift for shift in reached if shift < within])
    return table


def first_impossible(possible, network, path, split):
    """Return the (index, shift) of the first station whose time in a split is not possible, or None."""
    for index, shift in enumerate(shifts_of(network, path, split)):
        if split[index] not in possible.times(path[index], shift):
            return index, shift
    return None


def require_admissible(book, name, curve, path, within, begin):
    """Raise an error unless one may ask to admit a stream with these values to a book."""
    require_new_stream(book, name, curve)
    book.network.check_path(path)
    require_within(within)
    require_tick(begin)
    book.require_no_reserves()
    require_free_place(book)


def require_free_place(book):
    """Raise TooMany if a book has as many streams as can be admitted."""
    if len(book) >= MAX_STREAMS:
        raise TooMany(MAX_STREAMS)


def require_new_stream(book, name, curve):
    """Raise an error unless a book can get a stream with this name and this curve."""
    if not is_name(name):
        raise InvalidName(name)
    if name in book:
        raise NameTaken(name)
    require_good(curve)
    if find_problem(curve.first_values(), curve.period, curve.gain) is not None:
        raise TooLong(MAX_VALUES)


def require_within(value):
    """Raise InvalidTime unless a value is a within."""
    if not is_count_to(value, MAX_WITHIN):
        raise InvalidTime(value)
