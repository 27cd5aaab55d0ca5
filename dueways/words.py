"""Words of texts and commands: integers and curves."""

from dueways.curves import Curve, find_problem

DIGITS = "0123456789"
MAX_DIGITS = 9


def read_integer(word):
    """Return the integer that a word is, decimal without sign and leading zeros, or None."""
    if not 1 <= len(word) <= MAX_DIGITS or not all([sign in DIGITS for sign in word]):
        return None
    if len(word) > 1 and word[0] == "0":
        return None
    return int(word)


def read_integer_to(word, most):
    """Return the integer up to this one that a word is, or None."""
    value = read_integer(word)
    if value is None or value > most:
        return None
    return value


def read_curve(word):
    """Return the curve whose text a word is, or None."""
    parts = word.split("/")
    if len(parts) != 3:
        return None
    values = [read_integer(part) for part in parts[0].split(",")]
    period = read_integer(parts[1])
    gain = read_integer(parts[2])
    if find_problem(values, period, gain) is not None:
        return None
    curve = Curve(values, period=period, gain=gain)
    # There are other writings of a curve, but its text is that of the form.
    if str(curve) != word:
        return None
    return curve
