"""Networks: stations, links between them, paths and splits."""

from dueways.checks import is_name
from dueways.counts import is_count_to, is_integer
from dueways.errors import InvalidNetwork, InvalidPath, InvalidSplit, InvalidStation, NoLink, UnknownStation
from dueways.loads import MAX_TIME
from dueways.supply import MAX_CAPACITY

MAX_ROOM = 200
MAX_STATIONS = 10
MAX_LINK = 10
MAX_PATH = 5


class Station:
    """A part of a network that serves units and has places for them. It never changes."""

    def __init__(self, name, capacity, room, *, may_fail=False):
        wrong = find_station_problem(name, capacity, room, may_fail)
        if wrong is not None:
            raise InvalidStation(wrong)
        self._name = name
        self._capacity = capacity
        self._room = room
        self._may_fail = may_fail

    @property
    def name(self):
        """The name."""
        return self._name

    @property
    def capacity(self):
        """How many units it can serve in a tick."""
        return self._capacity

    @property
    def room(self):
        """For how many units it has places."""
        return self._room

    @property
    def may_fail(self):
        """Whether it may fail."""
        return self._may_fail


class Network:
    """Stations and links. It never changes."""

    def __init__(self, stations, links=()):
        wrong = find_network_problem(stations, links)
        if wrong is not None:
            raise InvalidNetwork(wrong[0], wrong[1])
        self._stations = {station.name: station for station in stations}
        self._links = {(source, target): length for source, target, length in links}
        self._facts = [(station.name, station.capacity, station.room, station.may_fail) for station in stations]

    def __eq__(self, other):
        return isinstance(other, Network) and self._facts == other._facts and self._links == other._links

    def names(self):
        """Return the list of the names of the stations."""
        return list(self._stations)

    def links(self):
        """Return the sorted list of the links."""
        return sorted([(source, target, length) for (source, target), length in self._links.items()])

    def find(self, name):
        """Return the station with a name."""
        if not isinstance(name, str) or name not in self._stations:
            raise UnknownStation(name)
        return self._stations[name]

    def link(self, source, target):
        """Return the length of the link from a station to another one."""
        self.find(source)
        self.find(target)
        if (source, target) not in self._links:
            raise NoLink(source, target)
        return self._links[(source, target)]

    def check_path(self, value):
        """Raise InvalidPath unless a value is a path."""
        if not isinstance(value, list) or not 1 <= len(value) <= MAX_PATH:
            raise InvalidPath(0)
        for position, name in enumerate(value):
            if not isinstance(name, str) or name not in self._stations or name in value[:position]:
                raise InvalidPath(position)
            if position > 0 and (value[position - 1], name) not in self._links:
                raise InvalidPath(position)


def check_split(network, path, value):
    """Return the total of a split of a path."""
    network.check_path(path)
    if not isinstance(value, list):
        raise InvalidSplit(0)
    for position, time in enumerate(value):
        if not is_integer(time) or not 1 <= time <= MAX_TIME:
            raise InvalidSplit(position)
    if len(value) != len(path):
        raise InvalidSplit(min(len(value), len(path)))
    return total_of(network, path, value)


def shifts_of(network, path, split):
    """Return the list of the shifts of a split of a path."""
    shifts = [0]
    for position in range(1, len(path)):
        length = network.link(path[position - 1], path[position])
        shifts.append(shifts[-1] + split[position - 1] + length)
    return shifts


def total_of(network, path, split):
    """Return the total of a split of a path."""
    return shifts_of(network, path, split)[-1] + split[-1]


def find_station_problem(name, capacity, room, may_fail):
    """Return the name of the first value with which no station can be made, or None."""
    if not is_name(name):
        return "name"
    if not is_count_to(capacity, MAX_CAPACITY):
        return "capacity"
    if not is_count_to(room, MAX_ROOM):
        return "room"
    if not isinstance(may_fail, bool):
        return "may_fail"
    return None


def find_network_problem(stations, links):
    """Return the first (problem, position) with which no network can be made, or None."""
    if not isinstance(stations, list) or not 1 <= len(stations) <= MAX_STATIONS:
        return "stations", 0
    for position, station in enumerate(stations):
        if not isinstance(station, Station):
            return "station", position
    names = [station.name for station in stations]
    for position, name in enumerate(names):
        if name in names[:position]:
            return "name", position
    if not isinstance(links, (list, tuple)):
        return "links", 0
    pairs = []
    for position, link in enumerate(links):
        if not is_link(link, names) or link[:2] in pairs:
            return "link", position
        pairs.append(link[:2])
    return None


def is_link(value, names):
    """Return whether a value is a tuple (source, target, length) of two of these names and a count up to 10."""
    if not isinstance(value, tuple) or len(value) != 3:
        return False
    source, target, length = value
    return source in names and target in names and source != target and is_count_to(length, MAX_LINK)
