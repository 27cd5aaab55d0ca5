"""Changes of books: streams end and take other paths, and capacities change."""

from dueways.admission import Refusal, require_admissible, require_within
from dueways.book import MAX_LIVES
from dueways.checks import require_tick
from dueways.counts import is_count, require_count_to
from dueways.errors import InvalidTick, InvalidWeights, Overfull, TooMany
from dueways.network import total_of
from dueways.splits import Possible, split_within
from dueways.supply import MAX_CAPACITY, Supply
from dueways.windows import overfull

MAX_DELAY = 60
MAX_SHED = 8


def end_stream(book, name, at):
    """End a stream at a tick."""
    book.require_stream(name)
    book.require_no_reserves()
    require_tick(at)
    begin, end, _, _ = book.lives_of(name)[-1]
    if at < begin or (end is not None and at > end):
        raise InvalidTick(at)
    put_end(book, name, at)


def earliest(book, name, curve, path, within, *, begin, until):
    """Return (tick, refusals): the first tick from which on a stream is admitted, or None, and why not earlier."""
    require_admissible(book, name, curve, path, within, begin)
    require_until(until, begin)
    possible = Possible(book, name, curve, begin)
    refusals = []
    for tick in range(begin, until + 1):
        if split_within(possible.beginning(tick), book.network, path, within) is not None:
            return tick, refusals
        refusals.append(Refusal(book, name, curve, path, within, tick, None))
    return None, refusals


def reroute(book, name, path, within, *, at, until):
    """End a stream at a tick and let it take another path as early as possible; return (begin, split), or None."""
    require_reroute(book, name, path, within, at, until)
    trial = book.clone()
    put_end(trial, name, at)
    possible = Possible(trial, name, book.curve_of(name), at)
    for begin in range(at, until + 1):
        least = least_total_behind(trial, name, begin)
        split = split_within(possible.beginning(begin), book.network, path, within, least)
        if split is not None:
            lives = trial.lives_of(name) + [(begin, None, tuple(path), tuple(split))]
            book.put_stream(name, book.curve_of(name), within, lives)
            return begin, split
    return None


def change_capacity(book, station, at, capacity):
    """Change the capacity of a station from a tick on."""
    require_change(book, station, at, capacity)
    changes = book.supply_of(station).changes() + [(at, capacity)]
    window = overfull_with(book, station, changes)
    if window is not None:
        raise Overfull(station, window)
    book.put_changes(station, changes)


def shed(book, station, at, capacity, weights):
    """Change the capacity of a station and end the streams of least weight for it; return their names, or None."""
    require_change(book, station, at, capacity)
    require_weights(book, weights)
    names = names_to_end(book, station, at)
    if len(names) > MAX_SHED:
        raise TooMany(MAX_SHED)
    changes = book.supply_of(station).changes() + [(at, capacity)]
    choices = [(sum([weights[name] for name in chosen]), len(chosen), chosen) for chosen in subsets(sorted(names))]
    for _, _, chosen in sorted(choices):
        trial = book.clone()
        put_ends(trial, chosen, at)
        if overfull_with(trial, station, changes) is None:
            put_ends(book, chosen, at)
            book.put_changes(station, changes)
            return chosen
    return None


def put_end(book, name, at):
    """Let the last life of a stream end at a tick."""
    lives = book.lives_of(name)
    begin, _, path, split = lives[-1]
    book.put_stream(name, book.curve_of(name), book.within_of(name), lives[:-1] + [(begin, at, path, split)])


def put_ends(book, names, at):
    """Let the last lives of some streams end at a tick."""
    for name in names:
        put_end(book, name, at)


def least_total_behind(book, name, begin):
    """Return the least total with which no unit that enters from a tick on arrives before one of an ended life."""
    last = [end - 1 + total_of(book.network, path, split)
            for start, end, path, split in book.lives_of(name) if start < end]
    return max([arrival - begin for arrival in last], default=0)


def overfull_with(book, station, changes):
    """Return the first overfull window of a station with these changes of its capacity, or None."""
    loads = [load for _, load in book.loads_of(station)]
    return overfull(Supply(book.network.find(station).capacity, changes), loads)


def names_to_end(book, station, at):
    """Return the list of the streams that pass a station in their last life and may be ended at a tick."""
    found = []
    for name in book.names():
        begin, end, path, _ = book.lives_of(name)[-1]
        if station in path and begin <= at and (end is None or end > at):
            found.append(name)
    return found


def subsets(names):
    """Return the list of all lists of some of these names, each in their sequence."""
    found = [[]]
    for name in names:
        found = found + [chosen + [name] for chosen in found]
    return found


def require_until(value, begin):
    """Raise InvalidTick unless a value is a tick up to which one may look, from a tick begin on."""
    require_tick(value)
    if not begin <= value <= begin + MAX_DELAY:
        raise InvalidTick(value)


def require_reroute(book, name, path, within, at, until):
    """Raise an error unless one may ask to reroute a stream so."""
    book.require_stream(name)
    book.network.check_path(path)
    require_within(within)
    book.require_no_reserves()
    if len(book.lives_of(name)) >= MAX_LIVES:
        raise TooMany(MAX_LIVES)
    require_tick(at)
    begin, end, _, _ = book.lives_of(name)[-1]
    if at < begin or end is not None:
        raise InvalidTick(at)
    require_until(until, at)


def require_change(book, station, at, capacity):
    """Raise an error unless one may ask to change the capacity of a station so."""
    book.network.find(station)
    book.require_no_reserves()
    require_tick(at)
    last = max([tick for tick, _ in book.supply_of(station).changes()], default=0)
    if at <= last:
        raise InvalidTick(at)
    require_count_to(capacity, MAX_CAPACITY)


def require_weights(book, value):
    """Raise InvalidWeights unless a value is a dict from the names of all streams to counts."""
    if not isinstance(value, dict) or len(value) != len(book):
        raise InvalidWeights("not a dict with an entry for each stream")
    for name, weight in value.items():
        if name not in book or not is_count(weight):
            raise InvalidWeights("not a dict from the names of streams to counts")
