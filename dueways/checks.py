"""What ticks, windows and names are."""

from dueways.counts import is_count, is_count_to
from dueways.errors import InvalidTick, InvalidWindow

MAX_TICK = 1000
MAX_NAME = 8


def require_tick(value):
    """Raise InvalidTick unless a value is a tick as callers may pass it."""
    if not is_count_to(value, MAX_TICK):
        raise InvalidTick(value)


def is_window(start, end):
    """Return whether two values are the start and the end of a window."""
    return is_count(start) and is_count(end) and start < end


def require_window(start, end):
    """Raise InvalidWindow unless two values are the start and the end of a window."""
    if not is_window(start, end):
        raise InvalidWindow((start, end))


def is_name(value):
    """Return whether a value is a string of one to eight characters from a to z."""
    if not isinstance(value, str) or not 1 <= len(value) <= MAX_NAME:
        return False
    return all(["a" <= sign <= "z" for sign in value])
