"""What the document says of texts, plainly: a text is right if it is that of some book, and its first lines are if they
can be completed."""

import re

from dueways.curves import Curve
from dueways.errors import InvalidCurve

NUMBER = "(0|[1-9][0-9]{0,17})"
NAME = "([a-z]{1,8})"
ROUTE = "((?: [a-z]{1,8}:[1-9][0-9]?)+)"
FORMS = {
    "station": re.compile(f"station {NAME} {NUMBER} {NUMBER}( fails)?"),
    "link": re.compile(f"link {NAME} {NAME} {NUMBER}"),
    "stream": re.compile(f"stream {NAME} {NUMBER} ([0-9,]+)/{NUMBER}/{NUMBER}"),
    "life": re.compile(f"life {NUMBER} ({NUMBER}|-){ROUTE}"),
    "reserve": re.compile(f"reserve{ROUTE}"),
    "capacity": re.compile(f"capacity {NAME} {NUMBER} {NUMBER}"),
}


def parts(line):
    """Return the (kind, groups) of a line, or None."""
    kind = line.split(" ")[0]
    found = FORMS[kind].fullmatch(line) if kind in FORMS else None
    return (kind, found.groups()) if found else None


def is_network(lines):
    """Return whether some lines are those of a network."""
    told = [parts(line) for line in lines]
    if None in told or not told:
        return False
    kinds = [kind for kind, _ in told]
    many = kinds.count("station")
    if kinds != ["station"] * many + ["link"] * (len(kinds) - many) or not 1 <= many <= 10:
        return False
    names = [groups[0] for _, groups in told[:many]]
    pairs = [groups[:2] for _, groups in told[many:]]
    return (len(set(names)) == many and all(int(groups[1]) <= 20 and int(groups[2]) <= 200 for _, groups in told[:many])
            and all(one in names and two in names and one != two for one, two in pairs)
            and pairs == sorted(set(pairs)) and all(int(groups[2]) <= 10 for _, groups in told[many:]))


def route(links, stations, words):
    """Return the (path, split, total) of words, or None."""
    path = [word.split(":")[0] for word in words.split()]
    split = [int(word.split(":")[1]) for word in words.split()]
    if not set(path) <= set(stations) or len(set(path)) != len(path) or len(path) > 5 or max(split) > 12:
        return None
    pairs = list(zip(path, path[1:]))
    if not set(pairs) <= set(links):
        return None
    return path, split, sum(split) + sum(links[pair] for pair in pairs)


def good_curve(values, period, gain):
    """Return whether a curve's writing is the text of a good curve."""
    try:
        curve = Curve([int(value) for value in values.split(",")], period=int(period), gain=int(gain))
    except (InvalidCurve, ValueError):
        return False
    return curve.is_good() and str(curve) == f"{values}/{period}/{gain}"


def is_book(lines):
    """Return whether some lines are those of a book, safe or not."""
    many = len([line for line in lines if line.split(" ")[0] in ("station", "link")])
    if not is_network(lines[:many]):
        return False
    told = [parts(line) for line in lines]
    if None in told:
        return False
    stations = {groups[0]: int(groups[1]) for kind, groups in told if kind == "station"}
    links = {groups[:2]: int(groups[2]) for kind, groups in told if kind == "link"}
    rest = told[many:]
    changes = [groups for kind, groups in rest if kind == "capacity"]
    blocks = []
    for kind, groups in rest[:len(rest) - len(changes)]:
        if kind == "stream":
            blocks.append((groups, [], []))
        elif kind not in ("life", "reserve") or not blocks or (blocks[-1][2] and kind == "life"):
            return False
        else:
            blocks[-1][1 if kind == "life" else 2].append(groups)
    if [kind for kind, _ in rest[len(rest) - len(changes):]] != ["capacity"] * len(changes):
        return False
    if len({block[0][0] for block in blocks}) != len(blocks):
        return False
    plain = not changes and all(len(block[1]) == 1 and block[1][0][:2] == ("0", "-") for block in blocks)
    if any(block[2] for block in blocks) and not plain:
        return False
    return all(is_stream(links, stations, *block) for block in blocks) and are_changes(stations, changes)


def is_stream(links, stations, head, lives, reserves):
    name, within, values, period, gain = head
    if int(within) > 100 or not good_curve(values, period, gain) or not 1 <= len(lives) <= 4 or len(reserves) > 1:
        return False
    before = 0
    for place, (begin, end, _, words) in enumerate(lives):
        if before is None or int(begin) < before or int(begin) > 1000 or not route(links, stations, words):
            return False
        before = None if end == "-" else int(end)
        if before is not None and not int(begin) <= before <= 1000:
            return False
    told = [lives[-1][3]] + [groups[0] for groups in reserves]
    return all(route(links, stations, words) and route(links, stations, words)[2] <= int(within) for words in told)


def are_changes(stations, changes):
    """Return whether some changes are in sequence, and each one changes something."""
    capacities, last = dict(stations), (-1, 0)
    for name, tick, capacity in changes:
        if name not in stations or not 1 <= int(tick) <= 1000 or int(capacity) > 20:
            return False
        place = (list(stations).index(name), int(tick))
        if place <= last or capacities[name] == int(capacity):
            return False
        capacities[name], last = int(capacity), place
    return True


def completions(lines):
    """Return what may follow on the first lines of a book: nothing, or a life that always fits."""
    found = [[]]
    stations = [line.split(" ")[1] for line in lines if line.startswith("station ")]
    ends = [line.split(" ")[2] for line in lines[-1:] if line.startswith("life ") and len(line.split(" ")) > 2]
    if stations:
        found += [[f"life {begin} - {stations[0]}:1"] for begin in ["0"] + ends]
    return found


def wrong_line(text, is_right, further):
    """Return the number of the line for which a text is not right, or None, whether the book is safe or not."""
    lines = text.split("\n")
    rest = lines.pop()
    for number in range(1, len(lines) + 1):
        if not any(is_right(lines[:number] + more) for more in further(lines[:number])):
            return number
    return len(lines) + 1 if rest or not is_right(lines) else None


def wrong_network_line(text):
    return wrong_line(text, is_network, lambda lines: [[]])


def wrong_book_line(text):
    return wrong_line(text, is_book, completions)
