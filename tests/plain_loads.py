"""What the document says of visits, loads, supplies and windows, plainly and slowly.

Visits are tuples (time, shift, begin, end) here, loads tuples (numbers, visits), with the values of the curve at the
lengths from 0 on, supplies tuples (capacity, changes).
"""

from itertools import permutations, product

from plain import first_break, row, writings

LATEST = 80


def enters(visit, tick):
    """Return whether a unit of a visit may enter in a tick."""
    _, _, begin, end = visit
    return begin <= tick and (end is None or tick < end)


def is_urgent(visit, tick, start, end):
    """Return whether the unit that enters in a tick is urgent in a window by a visit."""
    time, shift, _, _ = visit
    return enters(visit, tick) and tick + shift >= start and tick + shift + time <= end


def has_place(visit, tick, now):
    """Return whether the unit that enters in a tick has a place in the tick now by a visit."""
    time, shift, _, _ = visit
    return enters(visit, tick) and tick + shift <= now < tick + shift + time


def bounds(ticks):
    """Return (first, behind) of some successive ticks, or None if there are none."""
    return (ticks[0], ticks[-1] + 1) if ticks else None


def stretch(visit, start, end):
    """Return the stretch of a visit in a window by looking at each entry tick."""
    return bounds([tick for tick in range(LATEST) if is_urgent(visit, tick, start, end)])


def placed_stretch(visit, now):
    """Return the stretch of a visit in a tick by looking at each entry tick."""
    return bounds([tick for tick in range(LATEST) if has_place(visit, tick, now)])


def stretches(visits, start, end):
    return [found for found in [stretch(visit, start, end) for visit in visits] if found]


def placed_stretches(visits, now):
    return [found for found in [placed_stretch(visit, now) for visit in visits] if found]


def cost(numbers, first, behind):
    return numbers[behind - first] if behind > first else 0


def least_cost(numbers, found):
    """Return the least cost of all matchings of some stretches one to one."""
    firsts = [first for first, _ in found]
    return min(sum(cost(numbers, first, behind) for first, behind in zip(firsts, order))
               for order in permutations([behind for _, behind in found]))


def demand(load, start, end):
    numbers, visits = load
    return least_cost(numbers, stretches(visits, start, end))


def places(load, now):
    numbers, visits = load
    return least_cost(numbers, placed_stretches(visits, now))


def counted(record, found, tick=0):
    """Return how many units of a record from a tick on enter in some stretches, once for each of them."""
    return sum(units for position, units in enumerate(record)
               for first, behind in found if first <= tick + position < behind)


def keeps(record, numbers):
    """Return whether a record keeps a curve."""
    return all(sum(record[start:start + length]) <= numbers[length]
               for length in range(1, len(record) + 1) for start in range(len(record) - length + 1))


def most_counted(numbers, found, ticks):
    """Return the most units in some stretches that a record of so many ticks that keeps the curve has."""
    return max(counted(record, found) for record in product(range(numbers[1] + 1), repeat=ticks)
               if keeps(record, numbers))


def capacity(supply, tick):
    found, changes = supply
    for at, after in changes:
        if at <= tick:
            found = after
    return found


def between(supply, start, end):
    return sum(capacity(supply, tick) for tick in range(start, end))


def first_overfull(supply, loads, latest, longest):
    """Return the first overfull window of those that start and are long at most so."""
    for length in range(1, longest + 1):
        for start in range(latest + 1):
            if sum(demand(load, start, start + length) for load in loads) > between(supply, start, start + length):
                return start, start + length
    return None


def first_crowded(room, loads, latest):
    for tick in range(latest + 1):
        if sum(places(load, tick) for load in loads) > room:
            return tick
    return None


def good_writings(**most):
    """Return the writings of all small good curves."""
    return [writing for writing in writings(**most) if first_break(row(writing, 30)) is None]
