"""Lives at a tick, and which books go on from another one."""


def life_at(lives, tick):
    """Return the life to which a tick belongs, or None."""
    for life in lives:
        begin, end, _, _ = life
        if begin <= tick and (end is None or tick < end):
            return life
    return None


def may_follow(book, other, tick):
    """Return whether a machine of a book may use the other one from a tick on."""
    names = book.names()
    if book.network != other.network or other.names()[:len(names)] != names:
        return False
    for name in names:
        if book.curve_of(name) != other.curve_of(name):
            return False
        if not are_alike_before(book.lives_of(name), other.lives_of(name), tick):
            return False
    return all([serve_alike_before(book.supply_of(station), other.supply_of(station), tick)
                for station in book.network.names()])


def are_alike_before(lives, others, tick):
    """Return whether each earlier tick is in lives with equal begins, paths and splits, or in none of either."""
    return all([beginning_at(lives, before) == beginning_at(others, before) for before in range(tick)])


def serve_alike_before(supply, other, tick):
    """Return whether two supplies have the same capacity in each earlier tick."""
    return all([supply.between(before, before + 1) == other.between(before, before + 1) for before in range(tick)])


def beginning_at(lives, tick):
    """Return the (begin, path, split) of the life to which a tick belongs, or None."""
    life = life_at(lives, tick)
    if life is None:
        return None
    begin, _, path, split = life
    return begin, path, split
