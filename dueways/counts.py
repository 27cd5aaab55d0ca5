"""What integers and counts are, and a division that rounds up."""

from dueways.errors import InvalidCount


def is_integer(value):
    """Return whether a value is an integer; True and False are none."""
    return isinstance(value, int) and not isinstance(value, bool)


def is_count(value):
    """Return whether a value is an integer that is at least 0."""
    return is_integer(value) and value >= 0


def is_count_to(value, most):
    """Return whether a value is a count that is at most this one."""
    return is_count(value) and value <= most


def require_count(value):
    """Raise InvalidCount unless a value is a count."""
    if not is_count(value):
        raise InvalidCount(value)


def require_count_to(value, most):
    """Raise InvalidCount unless a value is a count that is at most this one."""
    if not is_count_to(value, most):
        raise InvalidCount(value)


def rounded_up(units, parts):
    """Return the units divided by the parts, rounded up."""
    return (units + parts - 1) // parts
