"""Blame: which parts of a machine broke their duties, and which of them made a unit late."""

from dueways.counts import is_count
from dueways.errors import NotLate, UnknownUnit
from dueways.loads import demand
from dueways.past import Past
from dueways.records import breach


def breaches(machine):
    """Return the list of all breaches: of the polices, of the holds, and of the stations."""
    past = Past(machine)
    return police_breaches(machine) + hold_breaches(past) + station_breaches(past)


def chain(machine, station, stream, number):
    """Return the chain of a late unit: links, and at the end a breach, or what the book itself let happen."""
    book = machine.book()
    book.network.find(station)
    book.require_stream(stream)
    if not is_count(number) or number >= sum(machine.entered(stream)):
        raise UnknownUnit(number)
    if (station, stream, number) not in [one[1:] for one in machine.late()]:
        raise NotLate(number)
    past = Past(machine)
    found = []
    link = (station, stream, number)
    while link is not None:
        found.append(link)
        link, end = following_of(machine, past, link[0], link[1:])
    found.append(end)
    return found


def police_breaches(machine):
    """Return the list of the breaches of the polices, in the sequence of the streams."""
    found = [police_breach(machine, stream) for stream in machine.book().names()]
    return [one for one in found if one is not None]


def police_breach(machine, stream):
    """Return the breach of the police of a stream, or None."""
    found = breach(machine.entered(stream), machine.book().curve_of(stream))
    if found is None:
        return None
    return ("police", stream, *found)


def hold_breaches(past):
    """Return the list of the breaches of the holds, by tick, stream, number and station."""
    found = []
    streams = {name: rank for rank, name in enumerate(past.book().names())}
    for rank, station in enumerate(past.book().network.names()):
        for unit in past.released_units(station):
            if past.was_held(station, unit):
                told = hold_breach(past, station, unit)
                found.append((told[4], streams[unit[0]], unit[1], rank, told))
    return [one[4] for one in sorted(found)]


def hold_breach(past, station, unit):
    """Return the breach of a hold of a unit at a station."""
    stream, number = unit
    return "hold", stream, number, station, past.release_of(station, unit)


def station_breaches(past):
    """Return the list of the breaches of the stations, by tick, then in their sequence."""
    found = []
    for rank, station in enumerate(past.book().network.names()):
        found.extend([(tick, rank, station) for tick in past.broken_ticks(station)])
    return [("station", station, tick) for tick, _, station in sorted(found)]


def following_of(machine, past, station, unit):
    """Return the tuple (next link, end) behind the link of a unit at a station; one of them is None."""
    if past.was_behind(station, unit):
        return delay_of(past, station, unit)
    due = past.due_of(station, unit)
    broken = [tick for tick in past.broken_ticks(station) if past.release_of(station, unit) <= tick < due]
    if len(broken) > 0:
        return None, ("station", station, broken[0])
    start = busy_from(past, station, due)
    pressing = [one for one in past.released_units(station) if past.due_of(station, one) <= due]
    if any([past.was_waiting_after(station, one, start - 1) for one in pressing]):
        return None, ("station", station, start - 1)
    crowd = [one for one in pressing if start <= past.release_of(station, one) < due]
    return excess_of(machine, past, station, crowd, (start, due))


def delay_of(past, station, unit):
    """Return (next link, end) for a unit that was released at a station later than planned."""
    if past.came_behind(station, unit):
        return (past.station_before(station, unit), *unit), None
    return None, hold_breach(past, station, unit)


def busy_from(past, station, due):
    """Return the least tick from which on, up to a due, a station served all it could, and nothing less pressing."""
    start = due
    while start > 0 and was_busy(past, station, start - 1, due):
        start -= 1
    return start


def was_busy(past, station, tick, due):
    """Return whether a station served as many units as its capacity in a tick, all with at most this due."""
    served = past.served_in(station, tick)
    if len(served) != past.capacity_in(station, tick):
        return False
    return all([past.due_of(station, unit) <= due for unit in served])


def excess_of(machine, past, station, crowd, window):
    """Return (next link, end) for the first stream with more units of a crowd than its demand in the window."""
    start, end = window
    loads = dict(past.book().loads_of(station))
    for stream in past.book().names():
        units = [unit for unit in crowd if unit[0] == stream]
        if len(units) > 0 and len(units) > demand(loads[stream], start, end):
            behind = [(past.release_of(station, unit), unit[1], unit) for unit in units
                      if past.was_behind(station, unit)]
            if len(behind) > 0:
                return delay_of(past, station, min(behind)[2])
            return None, police_breach(machine, stream)
    return None, ("book", station, start, end)
