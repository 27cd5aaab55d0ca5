"""Readers: they take the lines of a text one after the other, as lists of words, as long as they can be right.

A line is not taken if no text of a network, or of a book, begins with the lines up to it.
"""

from dueways.admission import MAX_WITHIN
from dueways.book import MAX_LIVES, Book
from dueways.checks import MAX_TICK, is_name
from dueways.errors import InvalidPath, InvalidSplit
from dueways.network import MAX_STATIONS, Network, Station, check_split, find_station_problem, is_link
from dueways.supply import MAX_CAPACITY
from dueways.words import read_curve, read_integer, read_integer_to


class NetworkReader:
    """The stations and links that were read so far."""

    def __init__(self):
        self._stations = []
        self._links = []

    def take(self, words):
        """Take a line, and return whether it can be right."""
        if words[0] == "station":
            return self._take_station(words)
        return words[0] == "link" and self._take_link(words)

    def may_end(self):
        """Return whether the text may end here."""
        return len(self._stations) > 0

    def made(self):
        """Return the network."""
        return Network(self._stations, self._links)

    def _take_station(self, words):
        """Take a line of a station."""
        if len(self._links) > 0 or len(self._stations) == MAX_STATIONS:
            return False
        if len(words) != 4 and (len(words) != 5 or words[4] != "fails"):
            return False
        name = words[1]
        capacity = read_integer(words[2])
        room = read_integer(words[3])
        if name in self._names() or find_station_problem(name, capacity, room, False) is not None:
            return False
        self._stations.append(Station(name, capacity, room, may_fail=len(words) == 5))
        return True

    def _take_link(self, words):
        """Take a line of a link."""
        if len(words) != 4:
            return False
        link = (words[1], words[2], read_integer(words[3]))
        if not is_link(link, self._names()):
            return False
        if len(self._links) > 0 and link[:2] <= self._links[-1][:2]:
            return False
        self._links.append(link)
        return True

    def _names(self):
        """Return the list of the names of the stations."""
        return [station.name for station in self._stations]


class BookReader:
    """The network, the streams and the changes that were read so far."""

    def __init__(self):
        self._networks = NetworkReader()
        self._book = None
        # The first word of the last line behind those of the network.
        self._stage = None
        # The stream that was read last, and whether it needs a further life.
        self._stream = None
        self._is_open = False
        # The station and the tick of the last change.
        self._last = (0, 0)

    def take(self, words):
        """Take a line, and return whether it can be right."""
        if words[0] in ("station", "link"):
            return self._book is None and self._networks.take(words)
        if not self._networks.may_end():
            return False
        if self._book is None:
            self._book = Book(self._networks.made())
        takes = self._take_further(words)
        self._stage = words[0]
        return takes

    def may_end(self):
        """Return whether the text may end here."""
        return self._networks.may_end() and not self._is_open

    def made(self):
        """Return the book."""
        if self._book is None:
            return Book(self._networks.made())
        return self._book

    def _take_further(self, words):
        """Take a line behind those of the network."""
        if words[0] == "stream":
            return self._take_stream(words)
        if words[0] == "life":
            return self._take_life(words)
        if words[0] == "reserve":
            return self._take_reserve(words)
        return words[0] == "capacity" and self._take_change(words)

    def _take_stream(self, words):
        """Take a line of a stream."""
        if self._is_open or self._stage == "capacity" or len(words) != 4:
            return False
        name = words[1]
        within = read_integer_to(words[2], MAX_WITHIN)
        curve = read_curve(words[3])
        # No total is 0.
        if not is_name(name) or name in self._book or within is None or within == 0:
            return False
        if curve is None or not curve.is_good():
            return False
        self._stream = (name, within, curve, [])
        self._is_open = True
        return True

    def _take_life(self, words):
        """Take a line of a life of the last stream."""
        if self._stage not in ("stream", "life") or len(words) < 4:
            return False
        begin = read_integer_to(words[1], MAX_TICK)
        end = read_integer_to(words[2], MAX_TICK)
        route = read_route(self._book.network, words[3:])
        if begin is None or (end is None and words[2] != "-") or route is None:
            return False
        path, split, total = route
        name, within, curve, lives = self._stream
        if not may_live_on(lives, begin, end) or (self._book.has_reserves() and (begin, end) != (0, None)):
            return False
        self._is_open = total > within
        if self._is_open and (end is None or len(lives) + 1 == MAX_LIVES):
            return False
        lives.append((begin, end, path, split))
        self._book.put_stream(name, curve, within, lives)
        return True

    def _take_reserve(self, words):
        """Take a line of the reserve of the last stream."""
        if self._stage != "life" or self._is_open or not self._book.is_plain_otherwise():
            return False
        route = read_route(self._book.network, words[1:])
        name, within, _, _ = self._stream
        if route is None or route[2] > within:
            return False
        self._book.put_reserve(name, route[:2])
        return True

    def _take_change(self, words):
        """Take a line of a change of a capacity."""
        if self._is_open or self._book.has_reserves() or len(words) != 4:
            return False
        stations = self._book.network.names()
        tick = read_integer_to(words[2], MAX_TICK)
        capacity = read_integer_to(words[3], MAX_CAPACITY)
        if words[1] not in stations or tick is None or tick == 0 or capacity is None:
            return False
        place = (stations.index(words[1]), tick)
        supply = self._book.supply_of(words[1])
        if place <= self._last or supply.at(tick) == capacity:
            return False
        self._last = place
        self._book.put_changes(words[1], supply.changes() + [(tick, capacity)])
        return True


def may_live_on(lives, begin, end):
    """Return whether a stream with these lives may have another one with this begin and end."""
    if len(lives) == MAX_LIVES or (end is not None and end < begin):
        return False
    if len(lives) == 0:
        return True
    last = lives[-1][1]
    return last is not None and last <= begin


def read_route(network, words):
    """Return the tuple (path, split, total) that is written in words STATION:TIME, or None."""
    path = []
    split = []
    for word in words:
        station, _, time = word.partition(":")
        path.append(station)
        split.append(read_integer(time))
    try:
        total = check_split(network, path, split)
    except (InvalidPath, InvalidSplit):
        return None
    return tuple(path), tuple(split), total
