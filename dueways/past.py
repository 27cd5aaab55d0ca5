"""The past of a machine: when its units came to the stations, and were released and served there.

Units are given as tuples (stream, number). The lives in which units entered are still those of the machine's book.
"""

from dueways.succession import life_at
from dueways.units import way_of


class Past:
    """What a machine did so far, read from what it tells."""

    def __init__(self, machine):
        self._book = machine.book()
        self._ticks = machine.tick
        self._ranks = {name: rank for rank, name in enumerate(self._book.names())}
        self._ways = planned_ways(machine, self._book)
        stations = self._book.network.names()
        self._releases = {station: by_unit(machine.released(station)) for station in stations}
        self._services = {station: by_unit(machine.served(station)) for station in stations}
        # The ticks in which a station broke its duty, where they were asked for.
        self._broken = {}

    def book(self):
        """Return the machine's book."""
        return self._book

    def released_units(self, station):
        """Return the list of the units that were released at a station, by tick, stream and number."""
        return list(self._releases[station])

    def release_of(self, station, unit):
        """Return the tick in which a unit was released at a station."""
        return self._releases[station][unit]

    def due_of(self, station, unit):
        """Return the due of a unit at a station."""
        return self._ways[unit][self._index_of(station, unit)][2]

    def planned_at(self, station, unit):
        """Return the tick in which a unit is planned to be released at a station."""
        return self._ways[unit][self._index_of(station, unit)][1]

    def came_at(self, station, unit):
        """Return the tick in which a unit came to a station at which it was released."""
        before = self.station_before(station, unit)
        if before is None:
            return self.planned_at(station, unit)
        left = max(self._services[before][unit] + 1, self.due_of(before, unit))
        return left + self._book.network.link(before, station)

    def station_before(self, station, unit):
        """Return the station behind which this one stands in a unit's path, or None."""
        index = self._index_of(station, unit)
        if index == 0:
            return None
        return self._ways[unit][index - 1][0]

    def came_behind(self, station, unit):
        """Return whether a unit came to a station later than planned."""
        return self.came_at(station, unit) > self.planned_at(station, unit)

    def was_behind(self, station, unit):
        """Return whether a unit was released at a station later than planned."""
        return self.release_of(station, unit) > self.planned_at(station, unit)

    def was_held(self, station, unit):
        """Return whether a unit was released at a station later than planned and later than it came."""
        return self.release_of(station, unit) > max(self.planned_at(station, unit), self.came_at(station, unit))

    def was_waiting_after(self, station, unit, tick):
        """Return whether a unit was released at a station by a tick and not served by then."""
        served = self._services[station].get(unit)
        return self.release_of(station, unit) <= tick and (served is None or served > tick)

    def capacity_in(self, station, tick):
        """Return the capacity of a station in a tick, by the book."""
        return self._book.supply_of(station).between(tick, tick + 1)

    def served_in(self, station, tick):
        """Return the list of the units that a station served in a tick."""
        return [unit for unit, at in self._services[station].items() if at == tick]

    def broken_ticks(self, station):
        """Return the list of the ticks in which a station broke its duty."""
        if station not in self._broken:
            self._broken[station] = self._found_broken(station)
        return list(self._broken[station])

    def _found_broken(self, station):
        """Return the list of the ticks in which a station did not serve the first ones of the waiting units."""
        supply = self._book.supply_of(station)
        released = self._ranked_by_tick(station, self._releases[station])
        served = self._ranked_by_tick(station, self._services[station])
        found = []
        waiting = []
        for tick in range(self._ticks):
            waiting = sorted(waiting + released.get(tick, []))
            told = served.get(tick, [])
            if waiting[:supply.between(tick, tick + 1)] != sorted(told):
                found.append(tick)
            waiting = [one for one in waiting if one not in told]
        return found

    def _ranked_by_tick(self, station, ticks):
        """Return the dict from each tick to its units, in the form in which a station sorts them."""
        found = {}
        for unit, tick in ticks.items():
            found.setdefault(tick, []).append((self.due_of(station, unit), self._ranks[unit[0]], unit[1]))
        return found

    def _index_of(self, station, unit):
        """Return the index of a station in the path of a unit."""
        return [name for name, _, _ in self._ways[unit]].index(station)


def planned_ways(machine, book):
    """Return the dict from the units that entered to their ways."""
    ways = {}
    for stream in book.names():
        lives = book.lives_of(stream)
        number = 0
        for tick, units in enumerate(machine.entered(stream)):
            for _ in range(units):
                ways[(stream, number)] = way_of(book.network, tick, life_at(lives, tick))
                number += 1
    return ways


def by_unit(told):
    """Return the dict from units to ticks of a list of tuples (tick, stream, number)."""
    return {(stream, number): tick for tick, stream, number in told}
