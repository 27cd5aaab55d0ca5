"""Which windows and ticks of a station decide whether one is overfull or crowded: finitely many.

Loads are given here as needs: tuples (curve, visits). A visit turns at the ticks begin + shift and end + shift, a
supply at its changes. As long as neither the start nor the end of a window passes such a tick, moving the window
changes nothing.
"""

from dueways.loads import MAX_TIME

# Each period of a curve divides this one.
ROUND = 12
BEYOND = 24


def turning_ticks(supply, needs):
    """Return the sorted list of the ticks at which visits turn or the supply changes."""
    turns = [tick for tick, _ in supply.changes()]
    for _, visits in needs:
        for visit in visits:
            turns.append(visit.begin + visit.shift)
            if visit.end is not None:
                turns.append(visit.end + visit.shift)
    return sorted(set(turns))


def crucial_starts(ticks, length):
    """Return the sorted list of the starts that decide for all windows of a length, by the turning ticks."""
    found = [0]
    for tick in ticks:
        first = max(found[-1] + 1, tick - length)
        found.extend(list(range(first, tick + 1)))
    return found


def crucial_ticks(needs):
    """Return the sorted list of the ticks that decide whether one is crowded."""
    found = [0]
    for _, visits in needs:
        for visit in visits:
            found.extend(list(range(visit.begin + visit.shift, visit.begin + visit.shift + MAX_TIME + 1)))
            if visit.end is not None:
                found.extend(list(range(visit.end + visit.shift, visit.end + visit.shift + MAX_TIME + 1)))
    return sorted(set(found))


def growth(supply, needs):
    """Return how many more units are needed in each further round in the long run than can be served."""
    changes = supply.changes()
    last = changes[-1][1] if changes else supply.at(0)
    needed = 0
    for curve, visits in needs:
        endless = len([visit for visit in visits if visit.end is None])
        needed += endless * curve.gain * (ROUND // curve.period)
    return needed - last * ROUND


def longest_length(supply, needs):
    """Return a length such that, if the needs do not grow, some window up to it is overfull if any one is."""
    ticks = turning_ticks(supply, needs)
    shifts = [visit.shift for _, visits in needs for visit in visits]
    if len(shifts) == 0:
        return 0
    values = max([len(curve.first_values()) for curve, _ in needs])
    return ticks[-1] + values + MAX_TIME + max(shifts) - min(shifts) + BEYOND


def crucial_lengths(supply, needs):
    """Return the list of the lengths up to the longest one at which some window may be overfull."""
    found = []
    ends_early = growth(supply, needs) <= 0
    settled = settled_length(supply, needs)
    calm = 0
    for length in range(1, longest_length(supply, needs) + 1):
        calm += 1
        if most_urgent(needs, length) > least_between(supply, length):
            found.append(length)
            calm = 0
        # Once all is settled, each further round changes both numbers as the round before did.
        if ends_early and calm >= ROUND and length >= settled + ROUND:
            return found
    return found


def settled_length(supply, needs):
    """Return a length from which on most_urgent and least_between change by the same in each round."""
    lengths = [tick + 1 for tick, _ in supply.changes()]
    for curve, visits in needs:
        lengths.append(len(curve.first_values()) + MAX_TIME)
        lengths.extend([visit.end - visit.begin + MAX_TIME for visit in visits if visit.end is not None])
    return max(lengths, default=0)


def most_urgent(needs, length):
    """Return how many units are at most urgent in any window of a length."""
    units = 0
    for curve, visits in needs:
        for visit in visits:
            ticks = length - visit.time + 1
            if visit.end is not None:
                ticks = min(ticks, visit.end - visit.begin)
            units += curve.at(max(0, ticks))
    return units


def least_between(supply, length):
    """Return how many units can be served at least in any window of a length."""
    ticks = [tick for tick, _ in supply.changes()]
    # As a window moves on, what it can serve changes steadily until its start or its end passes a change.
    starts = [0] + ticks + [tick - length for tick in ticks if tick > length]
    return min([supply.between(start, start + length) for start in starts])
