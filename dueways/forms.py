"""Curves as they are written: values, a period and a gain, which nothing here checks."""

from dueways.counts import rounded_up

# Each period of a curve divides this one.
LONGEST_PERIOD = 12


def value_at(values, period, gain, length):
    """Return the value at a length."""
    if length == 0:
        return 0
    if length <= len(values):
        return values[length - 1]
    rounds = rounded_up(length - len(values), period)
    return values[length - rounds * period - 1] + rounds * gain


def least_form(values, period, gain):
    """Return the values, the period and the gain of the form of the curve that is written so."""
    many = len(values)
    row = [value_at(values, period, gain, length) for length in range(many + period + 1)]
    least, step = least_period(row, many, period)
    # The value at this length follows from the one that is a period before it, so it need not be written.
    while many > least and row[many] == row[many - least] + step:
        many -= 1
    return row[1:many + 1], least, step


def least_period(row, many, period):
    """Return the least period, and the gain for it, of a curve with so many values, row having one period more.

    The differences over a lesser period repeat with the given period, so one round of them decides. Where
    two periods are right, their greatest common divisor is right too, so the least one divides the given one.
    """
    for least in range(1, period):
        if period % least == 0:
            steps = [row[length] - row[length - least] for length in range(many + 1, many + period + 1)]
            if min(steps) == max(steps):
                return least, steps[0]
    return period, row[many + period] - row[many]


def form_of_pieces(pieces):
    """Return the values, the period and the gain of the form of the curve of some pieces."""
    burst = max([piece[0] for piece in pieces])
    gain = min([units * LONGEST_PERIOD // ticks for _, units, ticks in pieces])
    # A steeper line gains at least one unit on the flattest one in each longest period, and rounding up adds
    # less than one: after so many periods only the flattest lines are least, and these repeat in each period.
    many = LONGEST_PERIOD * (burst + 2)
    values = [min([line_at(piece, length) for piece in pieces]) for length in range(1, many + 1)]
    return least_form(values, LONGEST_PERIOD, gain)


def line_at(piece, length):
    """Return what the line of a piece has at a length from 1 on."""
    burst, units, ticks = piece
    return burst + rounded_up(units * length, ticks)
