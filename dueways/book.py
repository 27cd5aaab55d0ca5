"""Books: which streams a network carries."""

from dueways.errors import HasReserves, NotPlain, UnknownStream
from dueways.loads import Load, Visit
from dueways.network import shifts_of
from dueways.supply import Supply
from dueways.windows import crowded, overfull

MAX_LIVES = 4


class Book:
    """A network, its streams in the sequence of their admission, and the changes of its capacities.

    Curves, networks and tuples never change, so copies of a book share them.
    """

    def __init__(self, network):
        self._network = network
        self._curves = {}
        self._withins = {}
        self._lives = {}
        self._reserves = {}
        self._changes = {station: [] for station in network.names()}

    def __eq__(self, other):
        return (isinstance(other, Book) and self._network == other._network
                and list(self._curves) == list(other._curves) and self._curves == other._curves
                and self._withins == other._withins and self._lives == other._lives
                and self._reserves == other._reserves and self._changes == other._changes)

    def __len__(self):
        return len(self._curves)

    def __contains__(self, name):
        return isinstance(name, str) and name in self._curves

    @property
    def network(self):
        """The network."""
        return self._network

    def names(self):
        """Return the list of the names of the streams."""
        return list(self._curves)

    def curve_of(self, name):
        """Return the curve of a stream."""
        self.require_stream(name)
        return self._curves[name]

    def within_of(self, name):
        """Return the within of a stream."""
        self.require_stream(name)
        return self._withins[name]

    def lives_of(self, name):
        """Return the list of the lives (begin, end, path, split) of a stream."""
        self.require_stream(name)
        return list(self._lives[name])

    def reserve_of(self, name):
        """Return the reserve (path, split) of a stream, or None."""
        self.require_stream(name)
        return self._reserves[name]

    def loads_of(self, station):
        """Return the list of the (name, load) of the streams that pass a station."""
        self._network.find(station)
        found = []
        for name in self._curves:
            visits = visits_at(self._network, station, self._lives[name])
            if visits:
                found.append((name, Load(self._curves[name], visits)))
        return found

    def supply_of(self, station):
        """Return the supply of a station."""
        return Supply(self._network.find(station).capacity, self._changes[station])

    def is_safe(self):
        """Return whether no station has an overfull window or a crowded tick."""
        for station in self._network.names():
            loads = [load for _, load in self.loads_of(station)]
            if crowded(self._network.find(station).room, loads) is not None:
                return False
            if overfull(self.supply_of(station), loads) is not None:
                return False
        return True

    def is_plain(self):
        """Return whether each stream has one endless life from tick 0 on, and nothing else is out of the ordinary."""
        return not self.has_reserves() and self.is_plain_otherwise()

    def is_plain_otherwise(self):
        """Return whether the book would be plain without its reserves."""
        if any([len(changes) > 0 for changes in self._changes.values()]):
            return False
        return all([len(lives) == 1 and lives[0][:2] == (0, None) for lives in self._lives.values()])

    def has_reserves(self):
        """Return whether some stream has a reserve."""
        return any([reserve is not None for reserve in self._reserves.values()])

    def clone(self):
        """Return an independent copy."""
        twin = Book(self._network)
        for name in self._curves:
            twin.put_stream(name, self._curves[name], self._withins[name], self._lives[name])
            twin.put_reserve(name, self._reserves[name])
        for station, changes in self._changes.items():
            twin.put_changes(station, changes)
        return twin

    def require_stream(self, name):
        """Raise UnknownStream unless a value is the name of a stream."""
        if name not in self:
            raise UnknownStream(name)

    def require_no_reserves(self):
        """Raise HasReserves if some stream has a reserve: streams and capacities cannot be changed then."""
        if self.has_reserves():
            raise HasReserves("a book with reserves cannot be changed")

    def require_plain(self):
        """Raise NotPlain unless the book is plain."""
        if not self.is_plain():
            raise NotPlain("the book is not plain")

    def require_plain_otherwise(self):
        """Raise NotPlain unless the book would be plain without its reserves."""
        if not self.is_plain_otherwise():
            raise NotPlain("the book would not be plain without its reserves either")

    def put_stream(self, name, curve, within, lives):
        """Add a stream without a reserve, or give a stream this curve, this within and these lives."""
        self._curves[name] = curve
        self._withins[name] = within
        self._lives[name] = list(lives)
        self._reserves.setdefault(name, None)

    def put_reserve(self, name, reserve):
        """Give a stream a reserve (path, split) of tuples, or none."""
        self._reserves[name] = reserve

    def put_changes(self, station, changes):
        """Give a station these changes of its capacity, without those to the capacity that it has anyway."""
        self._changes[station] = Supply(self._network.find(station).capacity, changes).changes()


def visits_at(network, station, lives):
    """Return the list of the visits of a station by the units of a stream with these lives."""
    visits = []
    for begin, end, path, split in lives:
        if station in path:
            index = path.index(station)
            shift = shifts_of(network, path, split)[index]
            visits.append(Visit(split[index], shift=shift, begin=begin, end=end))
    return visits
