"""Stretches: the entry ticks (first, behind) of the units that a window or a tick concerns at a visit."""


def urgent_stretch(visit, start, end):
    """Return the stretch of the units that are urgent in a window, or None."""
    return stretch_from(visit, start - visit.shift, end - visit.time - visit.shift + 1)


def placed_stretch(visit, tick):
    """Return the stretch of the units that have a place in a tick, or None."""
    return stretch_from(visit, tick - visit.time + 1 - visit.shift, tick + 1 - visit.shift)


def stretch_from(visit, first, behind):
    """Return the stretch of the entry ticks from first to behind - 1 that are within a visit, or None."""
    first = max(visit.begin, first)
    if visit.end is not None:
        behind = min(visit.end, behind)
    if behind <= first:
        return None
    return first, behind


def urgent_stretches(visits, start, end):
    """Return the list of the stretches of some visits in a window, where there are such."""
    found = [urgent_stretch(visit, start, end) for visit in visits]
    return [one for one in found if one is not None]


def placed_stretches(visits, tick):
    """Return the list of the stretches of some visits in a tick, where there are such."""
    found = [placed_stretch(visit, tick) for visit in visits]
    return [one for one in found if one is not None]
