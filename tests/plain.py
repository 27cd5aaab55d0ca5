"""What the document says of curves and records, written down plainly and slowly, to hold the program against."""

from itertools import combinations_with_replacement, product

PERIODS = (1, 2, 3, 4, 6, 12)


class Stranger:
    """A value of a kind that the program does not know."""


NO_INTEGERS = [True, False, None, "", "1", b"1", [], [1], (), (1,), {}, {1: 1}, {1}, object(), Stranger(), int, len]
NO_COUNTS = [-1, -10 ** 18] + NO_INTEGERS


def value(values, period, gain, length):
    """Return the value of a curve at a length, by point 5."""
    if length == 0:
        return 0
    if length <= len(values):
        return values[length - 1]
    return value(values, period, gain, length - period) + gain


def row(writing, many):
    """Return the values at the lengths from 0 to this one of a curve that is written so."""
    values, period, gain = writing
    found = [0] + values
    for length in range(len(found), many + 1):
        found.append(found[length - period] + gain)
    return found[:many + 1]


def writings(most_values=4, greatest=3, most_gain=3):
    """Return the list of (values, period, gain) of all small curves."""
    found = []
    for many in range(1, most_values + 1):
        for values in combinations_with_replacement(range(greatest + 1), many):
            for period in [period for period in PERIODS if period <= many]:
                for gain in range(most_gain + 1):
                    if values[-period] + gain >= values[-1]:
                        found.append((list(values), period, gain))
    return found


def first_break(numbers):
    """Return the break of a curve by its values at the lengths from 0 on, by point 6."""
    for total in range(2, len(numbers)):
        for first in range(1, total // 2 + 1):
            if numbers[total] > numbers[first] + numbers[total - first]:
                return first, total - first
    return None


def windows(record, length):
    """Return how many units enter in each window of a length that begins in the record, by their starts."""
    padded = record + [0] * length
    return [sum(padded[start:start + length]) for start in range(len(record))]


def first_breach(record, numbers):
    """Return the breach of a record and a curve by its values at the lengths from 0 on, by point 8."""
    for length in range(1, len(numbers)):
        for start, units in enumerate(windows(record, length)):
            if units > numbers[length]:
                return length, start, units - numbers[length]
    return None


def records(most_ticks, greatest):
    """Return the list of all small records."""
    found = []
    for ticks in range(most_ticks + 1):
        found += [list(record) for record in product(range(greatest + 1), repeat=ticks)]
    return found


def sums(record):
    """Return how many units of a record enter up to each tick."""
    return [sum(record[:tick + 1]) for tick in range(len(record))]


def never_more(record, other):
    """Return whether up to no tick more units of a record enter than of another one."""
    return all(one <= two for one, two in zip(sums(record), sums(other)))
