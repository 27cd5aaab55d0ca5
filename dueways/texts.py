"""Texts of networks and books."""

from dueways.errors import InvalidText
from dueways.readers import BookReader, NetworkReader
from dueways.reserves import find_danger


def network_text(network):
    """Return the text of a network."""
    return text_of(network_lines(network))


def book_text(book):
    """Return the text of a book."""
    lines = network_lines(book.network)
    for name in book.names():
        lines.append(f"stream {name} {book.within_of(name)} {book.curve_of(name)}")
        for begin, end, path, split in book.lives_of(name):
            last = "-" if end is None else end
            lines.append(f"life {begin} {last} {route_words(path, split)}")
        reserve = book.reserve_of(name)
        if reserve is not None:
            lines.append(f"reserve {route_words(reserve[0], reserve[1])}")
    for station in book.network.names():
        for tick, capacity in book.supply_of(station).changes():
            lines.append(f"capacity {station} {tick} {capacity}")
    return text_of(lines)


def load_network(text):
    """Return the network of a text."""
    reader = NetworkReader()
    read_lines(reader, text)
    return reader.made()


def load_book(text):
    """Return the book of a text, which must be safe, and protected if it has reserves."""
    reader = BookReader()
    many = read_lines(reader, text)
    book = reader.made()
    if not book.is_safe() or (book.has_reserves() and find_danger(book) is not None):
        raise InvalidText(many)
    return book


def network_lines(network):
    """Return the list of the lines of a network."""
    lines = []
    for name in network.names():
        station = network.find(name)
        further = " fails" if station.may_fail else ""
        lines.append(f"station {name} {station.capacity} {station.room}{further}")
    return lines + [f"link {source} {target} {length}" for source, target, length in network.links()]


def route_words(path, split):
    """Return the words STATION:TIME of a path and a split."""
    return " ".join([f"{station}:{time}" for station, time in zip(path, split)])


def text_of(lines):
    """Return the text of some lines."""
    return "".join([f"{line}\n" for line in lines])


def read_lines(reader, text):
    """Let a reader take all lines of a text; return how many they are, or raise InvalidText."""
    if not isinstance(text, str):
        raise InvalidText(0)
    lines = text.split("\n")
    # What stands behind the last line feed must be empty: otherwise it is a line without one.
    rest = lines.pop()
    for number, line in enumerate(lines, start=1):
        if not reader.take(line.split(" ")):
            raise InvalidText(number)
    if rest != "" or not reader.may_end():
        raise InvalidText(len(lines) + 1)
    return len(lines)
