"""Small networks and books that are drawn with a seed."""

from dueways.admission import admit
from dueways.book import Book
from dueways.curves import Curve
from dueways.errors import Refused
from dueways.network import Network, Station

CURVES = [([1], 1, 1), ([1], 1, 0), ([1, 1], 2, 1), ([2, 2], 2, 1), ([2], 1, 1), ([3, 3, 3], 3, 2), ([1, 1, 1, 1], 4, 1),
          ([2, 3], 1, 1), ([1, 2, 2, 3], 2, 1)]


def curve(writing):
    values, period, gain = writing
    return Curve(values, period=period, gain=gain)


def drawn_network(chance, many=3, most_capacity=3, most_room=9, most_link=2):
    """Return a network of so many stations in which most pairs have links."""
    names = ["p", "q", "r", "s", "t"][:many]
    stations = [Station(name, chance.randint(1, most_capacity), chance.randint(2, most_room),
                        may_fail=chance.choice([True, False])) for name in names]
    links = [(one, two, chance.randint(0, most_link)) for one in names for two in names
             if one != two and chance.randint(0, 4)]
    return Network(stations, links)


def drawn_path(chance, network, most=3):
    """Return some path of a network."""
    path = [chance.choice(network.names())]
    for _ in range(chance.randint(0, most - 1)):
        onward = [target for source, target, _ in network.links() if source == path[-1] and target not in path]
        if onward:
            path.append(chance.choice(onward))
    return path


def admit_some(chance, book, many, latest=0, most_path=3):
    """Try to admit so many streams to a book."""
    for name in ["a", "b", "c", "d", "e", "f"][:many]:
        path = drawn_path(chance, book.network, most_path)
        try:
            admit(book, name, curve(chance.choice(CURVES)), path, 40, begin=chance.randint(0, latest))
        except Refused:
            pass
    return book


def safe_book(chance, many=4, stations=3, latest=0):
    """Return a safe book with up to so many streams."""
    return admit_some(chance, Book(drawn_network(chance, stations)), many, latest)


def drawn_lives(chance, network, most=3, latest=6, most_time=4):
    """Return some lives one after the other."""
    lives = []
    tick = chance.randint(0, latest)
    for number in range(chance.randint(1, most)):
        end = tick + chance.randint(0, latest)
        path = drawn_path(chance, network)
        split = [chance.randint(1, most_time) for _ in path]
        lives.append((tick, end, tuple(path), tuple(split)))
        tick = end + chance.choice([0, 0, 1, 2])
    if chance.randint(0, 2):
        begin, _, path, split = lives[-1]
        lives[-1] = (begin, None, path, split)
    return lives


def any_book(chance, many=3, stations=3, latest=6, changes=True, most=3):
    """Return a book with so many streams, with any lives, that is most likely not safe."""
    book = Book(drawn_network(chance, stations))
    for name in ["a", "b", "c", "d", "e", "f"][:many]:
        book.put_stream(name, curve(chance.choice(CURVES)), 90, drawn_lives(chance, book.network, most, latest))
    for station in book.network.names():
        if changes and chance.randint(0, 1):
            ticks = sorted(chance.sample(range(1, latest + 6), 2))
            book.put_changes(station, [(tick, chance.randint(0, 3)) for tick in ticks])
    return book
