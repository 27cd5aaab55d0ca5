"""Which windows and ticks of a station decide whether one is overfull or crowded: finitely many.

Loads are given here as needs: tuples (curve, visits). A visit turns at the ticks begin + shift and end + shift, a
supply at its changes. As long as neither the start nor the end of a window passes such a tick, moving the window
changes nothing.
"""

from dueways.loads import MAX_TIME

# Each period of a curve divides this one.
ROUND = 12
BEYOND = 24


def turning_ticks(supply, needs):
    """Return the sorted list of the ticks at which visits turn or the supply changes."""
    turns = [tick for tick, _ in supply.changes()]
    for _, visits in needs:
        for visit in visits:
            turns.append(visit.begin + visit.shift)
            if visit.end is not None:
                turns.append(visit.end + visit.shift)
    return sorted(set(turns))


def crucial_starts(ticks, length):
    """Return the sorted list of the starts that decide for all windows of a length, by the turning ticks."""
    found = [0]
    for tick in ticks:
        first = max(found[-1] + 1, tick - length)
        found.extend(list(range(first, tick + 1)))
    return found


def crucial_ticks(needs):
    """Return the sorted list of the ticks that decide whether one is crowded."""
    found = [0]
    for _, visits in needs:
        for visit in visits:
            found.extend(list(range(visit.begin + visit.shift, visit.begin + visit.shift + MAX_TIME + 1)))
            if visit.end is not None:
                found.extend(list(range(visit.end + visit.shift, visit.end + visit.shift + MAX_TIME + 1)))
    return sorted(set(found))


def growth(supply, needs):
    """Return how many more units are needed in each further round in the long run than can be served."""
    changes = supply.changes()
    last = changes[-1][1] if changes else supply.at(0)
    needed = 0
    for curve, visits in needs:
        endless = len([visit for visit in visits if visit.end is None])
        needed += endless * curve.gain * (ROUND // curve.period)
    return needed - last * ROUND


def longest_length(supply, needs):
    """Return a length such that, if the needs do not grow, some window up to it is overfull if any one is."""
    ticks = turning_ticks(supply, needs)
    shifts = [visit.shift for _, visits in needs for visit in visits]
    if len(shifts) == 0:
        return 0
    values = max([len(curve.first_values()) for curve, _ in needs])
    return ticks[-1] + values + MAX_TIME + max(shifts) - min(shifts) + BEYOND


def crucial_lengths(supply, needs):
    """Return the list of the lengths up to the longest one at which some window may be overfull."""
    found = []
    ends_early = growth(supply, needs) <= 0
    settled = settled_length(supply, needs)
    hulls = [hull_of(visits) for _, visits in needs]
    calm = 0
    for length in range(1, longest_length(supply, needs) + 1):
        calm += 1
        if most_urgent(needs, hulls, length) > least_between(supply, length):
            found.append(length)
            calm = 0
        # Once all is settled, each further round changes both numbers as the round before did.
        if ends_early and calm >= ROUND and length >= settled + ROUND:
            return found
    return found


def settled_length(supply, needs):
    """Return a length from which on most_urgent and least_between change by the same in each round."""
    lengths = [tick + 1 for tick, _ in supply.changes()]
    for curve, visits in needs:
        lengths.append(len(curve.first_values()) + MAX_TIME)
        ends = [visit.end for visit in visits if visit.end is not None]
        if len(ends) > 0:
            lengths.append(max(ends) - min([visit.begin for visit in visits]) + MAX_TIME)
    return max(lengths, default=0)


def hull_of(visits):
    """Return a tuple (most, more) if no entry tick belongs to two of some visits, otherwise None.

    All urgent units of a window enter in successive ticks, which are at most the length of the window and so many
    more, and at most so many in all, if this is not None.
    """
    ordered = sorted(visits, key=lambda visit: visit.begin)
    for one, following in zip(ordered, ordered[1:]):
        if one.end is None or one.end > following.begin:
            return None
    most = None
    if ordered[-1].end is not None:
        most = ordered[-1].end - ordered[0].begin
    last = max([visit.shift for visit in visits])
    return most, last + 1 - min([visit.time + visit.shift for visit in visits])


def most_urgent(needs, hulls, length):
    """Return a number such that in no window of a length more units are urgent."""
    units = 0
    for (curve, visits), hull in zip(needs, hulls):
        each = []
        for visit in visits:
            ticks = length - visit.time + 1
            if visit.end is not None:
                ticks = min(ticks, visit.end - visit.begin)
            each.append(curve.at(max(0, ticks)))
        urgent = sum(each)
        if hull is not None and len(visits) > 1:
            most, more = hull
            ticks = length + more if most is None else min(length + more, most)
            urgent = min(urgent, curve.at(max(0, ticks)))
        units += urgent
    return units


def least_between(supply, length):
    """Return how many units can be served at least in any window of a length."""
    ticks = [tick for tick, _ in supply.changes()]
    # As a window moves on, what it can serve changes steadily until its start or its end passes a change.
    starts = [0] + ticks + [tick - length for tick in ticks if tick > length]
    return min([supply.between(start, start + length) for start in starts])
