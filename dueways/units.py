"""Units on their way through the stations."""

from dueways.network import shifts_of


class Unit:
    """A unit of a stream: the way that is planned for it, and what happened to it so far.

    Its way is a list of tuples (station, planned, due), one for each station of its path.
    """

    def __init__(self, owner, serial, way):
        self.owner = owner
        self.serial = serial
        self.way = way
        # For each station so far: when it came, when it is or was released, and when it was served, or None.
        self.comings = []
        self.releases = []
        self.services = []
        self.has_place = False
        self.was_late = False
        self.was_lost = False
        self.arrival = None

    def where(self):
        """Return the name of the station at which it is, or to which it comes next."""
        return self.way[len(self.comings) - 1][0]

    def due(self):
        """Return its due at this station."""
        return self.way[len(self.comings) - 1][2]

    def served_at(self):
        """Return the tick in which it was served at this station, or None."""
        return self.services[-1]

    def following(self):
        """Return the name of the station behind this one."""
        return self.way[len(self.comings)][0]

    def is_at_last(self):
        """Return whether this station is the last one of its path."""
        return len(self.comings) == len(self.way)

    def come(self, tick, held):
        """Let it come to its next station in a tick, and be released so many ticks later than otherwise."""
        planned = self.way[len(self.comings)][1]
        self.comings.append(tick)
        self.releases.append(max(planned, tick) + held)
        self.services.append(None)
        self.was_late = False

    def clone(self):
        """Return an independent copy."""
        twin = Unit(self.owner, self.serial, self.way)
        twin.comings = list(self.comings)
        twin.releases = list(self.releases)
        twin.services = list(self.services)
        twin.has_place = self.has_place
        twin.was_late = self.was_late
        twin.was_lost = self.was_lost
        twin.arrival = self.arrival
        return twin


def way_of(network, entry, life):
    """Return the way of the units that enter in a tick of a life."""
    _, _, path, split = life
    releases = [entry + shift for shift in shifts_of(network, path, split)]
    return [(station, planned, planned + time) for station, planned, time in zip(path, releases, split)]
