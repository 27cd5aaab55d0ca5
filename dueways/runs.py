"""Runs: books with streams that need not be safe, and how units are handed in to see what becomes of them."""

from dueways.admission import require_free_place, require_new_stream
from dueways.checks import require_tick
from dueways.counts import is_count, require_count_to
from dueways.errors import InvalidHanded
from dueways.machine import Machine
from dueways.network import check_split
from dueways.records import MAX_TICKS


def forced(book, name, curve, path, split, *, begin=0):
    """Return a copy of a book to which a stream is added with this split, whether the copy is safe or not."""
    require_new_stream(book, name, curve)
    total = check_split(book.network, path, split)
    require_tick(begin)
    book.require_no_reserves()
    require_free_place(book)
    twin = book.clone()
    twin.put_stream(name, curve, total, [(begin, None, tuple(path), tuple(split))])
    return twin


def play(book, run, ticks):
    """Return a machine of a book after so many ticks in which the units of a run were handed in."""
    if not is_run(book, run):
        raise InvalidHanded("not a dict from names of streams to tuples of a tick and a record")
    require_count_to(ticks, MAX_TICKS)
    machine = Machine(book)
    for tick in range(ticks):
        machine.step(handed={name: record[tick - first] for name, (first, record) in run.items()
                             if 0 <= tick - first < len(record)})
    return machine


def first_trouble(machine):
    """Return the first (tick, kind, station) at which a unit is late or a station is full, or None."""
    ranks = {station: rank for rank, station in enumerate(machine.book().network.names())}
    found = [(tick, ranks[station], 1, "late", station) for tick, station in late_ticks(machine)]
    full = machine.full()
    if full is not None:
        found.append((full[0], ranks[full[1]], 0, "full", full[1]))
    if len(found) == 0:
        return None
    tick, _, _, kind, station = min(found)
    return tick, kind, station


def late_ticks(machine):
    """Return the list of the (tick, station) from which on, and where, each late unit is late."""
    releases = {station: {(stream, number): tick for tick, stream, number in machine.released(station)}
                for station in machine.book().network.names()}
    return [(max(due, releases[station][(stream, number)] + 1), station)
            for due, station, stream, number in machine.late()]


def is_run(book, value):
    """Return whether a value is a dict from names of streams to tuples of a tick and a record."""
    if not isinstance(value, dict):
        return False
    return all([name in book and is_start_and_record(told) for name, told in value.items()])


def is_start_and_record(value):
    """Return whether a value is a tuple of a tick and a record."""
    if not isinstance(value, tuple) or len(value) != 2:
        return False
    first, record = value
    return is_count(first) and isinstance(record, list) and all([is_count(units) for units in record])
