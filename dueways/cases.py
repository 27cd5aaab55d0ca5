"""Splits of all: other times for all streams of a plain book that let one more be admitted, or why there are none."""

from dueways.admission import require_free_place, require_new_stream, require_within
from dueways.arrangements import Arrangement
from dueways.counts import is_integer
from dueways.errors import NoSplits, TooMany
from dueways.loads import MAX_TIME

MAX_CASES = 400


def split_all(book, name, curve, path, within):
    """Return a new book in which all streams, the new one being the last, have splits with which it is safe."""
    require_askable(book, name, curve, path, within)
    streams = streams_with(book, name, curve, path, within)
    arrangement = Arrangement(book.network, streams)
    cases = searched_cases(arrangement)
    vector = list(cases)[-1]
    if cases[vector] != ("safe",):
        raise NoSplits(cases)
    made = book.clone()
    for (stream, limits, route, most), split in zip(streams, arrangement.splits(vector)):
        made.put_stream(stream, limits, most, [(0, None, tuple(route), split)])
    return made


def is_refusal(book, name, curve, path, within, value):
    """Return whether a value is a dict of cases that shows that there are no splits of all."""
    require_askable(book, name, curve, path, within)
    arrangement = Arrangement(book.network, streams_with(book, name, curve, path, within))
    ones = arrangement.ones()
    if not isinstance(value, dict) or not all([is_vector(vector, len(ones)) for vector in value]):
        return False
    if ones not in value:
        return False
    for vector, told in value.items():
        result = arrangement.case_of(vector)
        if result == ("safe",) or not is_same(told, result):
            return False
        if result[0] == "time" and not all([following in value for following in result[3]]):
            return False
    return True


def require_askable(book, name, curve, path, within):
    """Raise an error unless one may ask for splits of all with a new stream."""
    require_new_stream(book, name, curve)
    book.network.check_path(path)
    require_within(within)
    book.require_plain()
    require_free_place(book)


def streams_with(book, name, curve, path, within):
    """Return the list of the (name, curve, path, within) of the streams of a plain book and a new one."""
    found = []
    for stream in book.names():
        _, _, route, _ = book.lives_of(stream)[0]
        found.append((stream, book.curve_of(stream), list(route), book.within_of(stream)))
    return found + [(name, curve, list(path), within)]


def searched_cases(arrangement):
    """Return the dict of the cases with their results; if one is safe, it is the last one."""
    cases = {}
    left = [arrangement.ones()]
    while len(left) > 0:
        vector = left.pop()
        if vector in cases:
            continue
        if len(cases) == MAX_CASES:
            raise TooMany(MAX_CASES)
        result = arrangement.case_of(vector)
        cases[vector] = result
        if result == ("safe",):
            return cases
        if result[0] == "time":
            # The last one of these is taken first, with all that follows from it.
            left.extend(list(reversed(result[3])))
    return cases


def is_vector(value, size):
    """Return whether a value is a tuple of so many times up to 13."""
    if not isinstance(value, tuple) or len(value) != size:
        return False
    return all([is_integer(time) and 1 <= time <= MAX_TIME + 1 for time in value])


def is_same(value, result):
    """Return whether a value is the same as a result, of the same kinds throughout: True is not the same as 1."""
    if isinstance(result, tuple):
        return (isinstance(value, tuple) and len(value) == len(result)
                and all([is_same(part, other) for part, other in zip(value, result)]))
    if isinstance(result, str):
        return isinstance(value, str) and value == result
    return is_integer(value) and value == result
