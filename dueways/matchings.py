"""Stretches of entry ticks (first, behind), and how many units a good curve lets enter in them.

A unit counts once for each stretch in which it enters.
"""

from itertools import permutations


def cost(curve, first, behind):
    """Return what a match of a first with a behind costs: the most units that enter from one to the other."""
    if behind > first:
        return curve.at(behind - first)
    return 0


def total_cost(curve, matches):
    """Return what some matches (first, behind) cost together."""
    return sum([cost(curve, first, behind) for first, behind in matches])


def least_cost(curve, stretches):
    """Return the least cost of a matching, which is the greatest number of units that enter in the stretches."""
    # Nearly all windows have one stretch or none of a load, and many are looked at.
    if len(stretches) == 0:
        return 0
    if len(stretches) == 1:
        first, behind = stretches[0]
        return curve.at(behind - first)
    return total_cost(curve, least_matching(curve, stretches))


def least_matching(curve, stretches):
    """Return the matches (first, behind) of a least matching, by the sequence of the firsts."""
    firsts = [first for first, _ in stretches]
    behinds = [behind for _, behind in stretches]
    best = list(stretches)
    least = total_cost(curve, best)
    for sequence in permutations(behinds):
        matches = list(zip(firsts, sequence))
        total = total_cost(curve, matches)
        if total < least:
            best = matches
            least = total
    return best


def fullest(curve, stretches):
    """Return a (tick, record) that keeps the curve and has the most units in the stretches, none elsewhere.

    The first element of the record is the tick's. Without such units it is (0, []).
    """
    if least_cost(curve, stretches) == 0:
        return 0, []
    before = units_before(curve, least_matching(curve, stretches))
    tick = min([first for first, _ in stretches])
    behind = max([behind for _, behind in stretches])
    # As many units have entered before a tick as its distances from all points allow.
    sums = [min([units + cost(curve, point, at) for point, units in before.items()])
            for at in range(tick, behind + 1)]
    record = [sums[at + 1 - tick] - sums[at - tick] if is_inside(at, stretches) else 0
              for at in range(tick, behind)]
    return tick, record


def is_inside(tick, stretches):
    """Return whether a tick is in one of some stretches."""
    return any([first <= tick < behind for first, behind in stretches])


def units_before(curve, matches):
    """Return a dict from each first and behind of a least matching to how many units enter before it.

    Such numbers keep the curve if none is greater than another one plus the cost from that to this point. With
    each match's cost reached, their differences over the stretches sum up to the cost of the matching. As it is
    a least one, going around costs nothing less than 0, and so the least distances are such numbers.
    """
    points = sorted(set([point for match in matches for point in match]))
    before = {point: 0 for point in points}
    for _ in points:
        for here in points:
            for there in points:
                before[there] = min(before[there], before[here] + cost(curve, here, there))
        for first, behind in matches:
            before[first] = min(before[first], before[behind] - cost(curve, first, behind))
    return before
