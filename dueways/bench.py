"""Benches: the units that have a place at one station of a machine, and what was done there so far."""


class Bench:
    """The units with a place at a station, its loose units, and the lists of what was released and served."""

    def __init__(self):
        self._present = {}
        self._released = []
        self._served = []
        self._loose = 0
        self._loose_served = []

    def present(self):
        """Return the list of the units that have a place."""
        return list(self._present.values())

    def take_in(self, unit, tick):
        """Release a unit in a tick."""
        unit.has_place = True
        self._present[(unit.owner, unit.serial)] = unit
        self._released.append((tick, unit.owner, unit.serial))

    def let_go(self, unit):
        """Take the place from a unit."""
        unit.has_place = False
        del self._present[(unit.owner, unit.serial)]

    def waiting(self):
        """Return the list of the units that are not served."""
        return [unit for unit in self._present.values() if unit.served_at() is None]

    def serve(self, units, tick):
        """Serve these units in a tick, by their sequence."""
        for unit in units:
            unit.services[-1] = tick
            self._served.append((tick, unit.owner, unit.serial))

    def serve_loose(self, handed, capacity):
        """Let so many loose units come, and serve as many as the capacity allows."""
        there = self._loose + handed
        served = min(there, capacity)
        self._loose = there - served
        self._loose_served.append(served)

    def released(self):
        """Return the list of the (tick, stream, number) of all units that were released."""
        return list(self._released)

    def served(self):
        """Return the list of the (tick, stream, number) of all units that were served."""
        return list(self._served)

    def loose(self):
        """Return how many loose units wait, and the list of how many were served in each tick."""
        return self._loose, list(self._loose_served)

    def clone(self, twins):
        """Return an independent copy with the copies of the units, by (stream, number)."""
        twin = Bench()
        twin._present = {asked: twins[asked] for asked in self._present}
        twin._released = list(self._released)
        twin._served = list(self._served)
        twin._loose = self._loose
        twin._loose_served = list(self._loose_served)
        return twin
