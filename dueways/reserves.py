"""Reserves: second paths for the failure of a station, and what happens if one fails."""

from dueways.book import Book
from dueways.checks import MAX_TICK, require_tick
from dueways.crucial import growth
from dueways.errors import Exposed, InvalidBook, InvalidTick, TooSlow, UnknownStation
from dueways.loads import Load, Visit
from dueways.network import check_split, shifts_of, total_of
from dueways.windows import crowded, needs_of, overfull

BEYOND = 24


def with_reserves(book, reserves):
    """Return a copy of a book with reserves, a dict from names of streams to tuples (path, split)."""
    book.require_plain()
    require_reserves(reserves)
    twin = book.clone()
    for name in book.names():
        if name in reserves:
            path, split = reserves[name]
            total = check_split(book.network, path, split)
            if total > book.within_of(name):
                raise TooSlow(total)
            twin.put_reserve(name, (tuple(path), tuple(split)))
    for name in reserves:
        book.require_stream(name)
    danger = find_danger(twin)
    if danger is not None:
        raise Exposed(danger)
    return twin


def loads_after(book, failed, tick, station):
    """Return the list of the (name, load) of a station after the failure of another one at a tick."""
    require_failure(book, failed, tick)
    book.network.find(station)
    if station == failed:
        raise UnknownStation(station)
    book.require_plain_otherwise()
    return left_loads(book, failed, tick, station)


def after(book, failed, tick):
    """Return the book after the failure of a station at a tick."""
    require_failure(book, failed, tick)
    book.require_plain_otherwise()
    made = Book(book.network)
    for name in book.names():
        _, _, path, split = book.lives_of(name)[0]
        within = book.within_of(name)
        lives = [(0, None, path, split)]
        if failed in path:
            lives = [(0, tick, path, split)]
            reserve = reserve_beside(book, name, failed)
            if reserve is not None:
                lives.append((tick, None, reserve[0], reserve[1]))
                within = max(within, total_of(book.network, reserve[0], reserve[1]))
        made.put_stream(name, book.curve_of(name), within, lives)
    made.put_changes(failed, [(tick, 0)])
    return made


def find_danger(book):
    """Return the danger (failed, tick, kind, station, start, end) of a book, or None."""
    book.require_plain_otherwise()
    stations = book.network.names()
    for failed in stations:
        if book.network.find(failed).may_fail:
            others = [station for station in stations if station != failed]
            found = first_trouble_after(book, failed, others)
            if found is not None:
                return found
    return None


def fail(machine, station):
    """Let a station fail in the present tick; return the list of the (stream, number, station) of the lost units."""
    book = machine.book()
    following = after(book, station, machine.tick)
    lost = []
    for stream in book.names():
        _, _, path, _ = book.lives_of(stream)[0]
        if station in path:
            lost.extend([(stream, number, place) for number, place in machine.drop(stream)])
    machine.vacate(station)
    machine.use(following)
    return lost


def first_trouble_after(book, failed, others):
    """Return the danger if a station fails, or None."""
    last = {station: last_tick(book, station) for station in others}
    # At a greater tick no station is better off, so the last one tells which are in danger at all.
    troubled = [station for station in others if trouble_after(book, failed, last[station], station) is not None]
    if len(troubled) == 0:
        return None
    low = 1
    high = min([last[station] for station in troubled])
    while low < high:
        middle = (low + high) // 2
        if any([trouble_after(book, failed, middle, station) is not None for station in troubled]):
            high = middle
        else:
            low = middle + 1
    for station in troubled:
        found = trouble_after(book, failed, low, station)
        if found is not None:
            kind, start, end = found
            return failed, low, kind, station, start, end
    return None


def trouble_after(book, failed, tick, station):
    """Return the (kind, start, end) of what is wrong at a station after the failure of another one, or None."""
    loads = [load for _, load in left_loads(book, failed, tick, station)]
    window = overfull(book.supply_of(station), loads)
    if window is not None:
        return "time", window[0], window[1]
    crowd = crowded(book.network.find(station).room, loads)
    if crowd is not None:
        return "room", crowd, crowd + 1
    return None


def last_tick(book, station):
    """Return a tick such that no later failure of another station makes anything else of a station overfull."""
    loads = [load for _, load in book.loads_of(station)]
    if growth(book.supply_of(station), needs_of(loads)) > 0:
        # The longer the streams go on before the failure, the more they exceed what can be served.
        return MAX_TICK
    totals = [0]
    values = [0]
    for name in book.names():
        _, _, path, split = book.lives_of(name)[0]
        totals.append(total_of(book.network, path, split))
        values.append(len(book.curve_of(name).first_values()))
        if book.reserve_of(name) is not None:
            path, split = book.reserve_of(name)
            totals.append(total_of(book.network, path, split))
    return max(totals) + max(values) + BEYOND


def left_loads(book, failed, tick, station):
    """Return the list of the (name, load) of a station after a failure, without streams that do not pass it."""
    found = []
    for name in book.names():
        _, _, path, split = book.lives_of(name)[0]
        visits = []
        if station in path:
            time, shift = time_and_shift(book.network, path, split, station)
            end = max(0, tick - shift) if failed in path else None
            visits.append(Visit(time, shift=shift, end=end))
        reserve = reserve_beside(book, name, failed) if failed in path else None
        if reserve is not None and station in reserve[0]:
            time, shift = time_and_shift(book.network, reserve[0], reserve[1], station)
            visits.append(Visit(time, shift=shift, begin=tick))
        if len(visits) > 0:
            found.append((name, Load(book.curve_of(name), visits)))
    return found


def time_and_shift(network, path, split, station):
    """Return the (time, shift) of a split at a station of its path."""
    index = path.index(station)
    return split[index], shifts_of(network, path, split)[index]


def reserve_beside(book, name, failed):
    """Return the reserve of a stream if it does not pass a failed station, or None."""
    reserve = book.reserve_of(name)
    if reserve is None or failed in reserve[0]:
        return None
    return reserve


def require_failure(book, failed, tick):
    """Raise an error unless a station may be asked about as one that fails at a tick."""
    book.network.find(failed)
    require_tick(tick)
    if tick == 0:
        raise InvalidTick(tick)


def require_reserves(value):
    """Raise InvalidBook unless a value is a dict with at least one entry and tuples of two elements as values."""
    if not isinstance(value, dict) or len(value) == 0:
        raise InvalidBook("not a dict with at least one entry")
    if not all([isinstance(told, tuple) and len(told) == 2 for told in value.values()]):
        raise InvalidBook("not a dict to tuples of two elements")
