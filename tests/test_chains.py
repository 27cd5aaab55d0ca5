"""Chains: each reason by itself, and what follows in several links."""

import unittest

from dueways.blame import chain
from dueways.book import Book
from dueways.curves import Curve
from dueways.faults import Hold, Idle, Leak, Swap
from dueways.machine import Machine
from dueways.network import Network, Station
from dueways.runs import forced
from test_changes import ONE

TWO = Curve([2], gain=2)
RARE = Curve([1] * 6, period=6, gain=1)


def base(capacity=1, length=0, stations="pqr"):
    """Return a book without streams of stations in a row."""
    links = [(one, two, length) for one, two in zip(stations, stations[1:])]
    return Book(Network([Station(name, capacity, 50) for name in stations], links))


def run(book, ticks, faults=(), **handed):
    machine = Machine(book, faults=faults)
    for tick in range(ticks):
        machine.step(handed={name: row[tick] for name, row in handed.items() if tick < len(row)})
    return machine


class TestChains(unittest.TestCase):
    def check(self, machine, expected):
        """Check the chains of all late units, as a dict from (station, stream, number) to what follows."""
        self.assertEqual({one[1:]: chain(machine, *one[1:])[1:] for one in machine.late()}, expected)

    def test_a_hold_at_the_first_station(self):
        book = forced(base(), "x", ONE, ["p", "q"], [1, 2])
        machine = run(book, 9, [Hold("x", 0, 0, 2)], x=[1])
        self.check(machine, {("p", "x", 0): [("hold", "x", 0, "p", 2)],
                             ("q", "x", 0): [("p", "x", 0), ("hold", "x", 0, "p", 2)]})
        # It is late at p, but not at q, if the link brings it there by the planned tick: this is never so.
        machine = run(book, 9, [Hold("x", 0, 0, 1)], x=[1])
        self.assertEqual(machine.late(), [(1, "p", "x", 0)])

    def test_a_hold_at_a_later_station(self):
        book = forced(base(), "x", ONE, ["p", "q"], [1, 1])
        machine = run(book, 9, [Hold("x", 0, 1, 4)], x=[1])
        self.check(machine, {("q", "x", 0): [("hold", "x", 0, "q", 5)]})
        # Held by so much as it has time, it is served in its last tick.
        book = forced(base(), "x", ONE, ["p", "q"], [1, 5])
        self.check(run(book, 9, [Hold("x", 0, 1, 4)], x=[1]), {})

    def test_units_that_came_late(self):
        book = forced(base(), "x", ONE, ["p", "q", "r"], [1, 1, 1])
        machine = run(book, 9, [Idle("p", 0, 1)], x=[1])
        last = ("station", "p", 0)
        self.check(machine, {("p", "x", 0): [last], ("q", "x", 0): [("p", "x", 0), last],
                             ("r", "x", 0): [("q", "x", 0), ("p", "x", 0), last]})

    def test_units_that_came_late_and_were_held(self):
        book = forced(base(), "x", ONE, ["p", "q"], [1, 1])
        machine = run(book, 9, [Idle("p", 0, 1), Hold("x", 0, 1, 3)], x=[1])
        self.check(machine, {("p", "x", 0): [("station", "p", 0)],
                             ("q", "x", 0): [("p", "x", 0), ("station", "p", 0)]})

    def test_the_first_broken_tick(self):
        book = forced(base(), "x", ONE, ["p"], [3])
        machine = run(book, 9, [Idle("p", tick, 1) for tick in (1, 2, 3)], x=[0, 1])
        self.check(machine, {("p", "x", 0): [("station", "p", 1)]})
        # A tick before its release does not matter if nothing waited then, nor one from its due on.
        machine = run(book, 9, [Idle("p", tick, 1) for tick in (0, 1, 2, 3, 4, 5)], x=[0, 1])
        self.check(machine, {("p", "x", 0): [("station", "p", 1)]})

    def test_swaps(self):
        book = forced(forced(base(), "x", RARE, ["p"], [2]), "y", RARE, ["p"], [3])
        machine = run(book, 9, [Swap("p", 0), Swap("p", 1)], x=[1], y=[1, 0])
        self.check(machine, {})
        book = forced(book, "z", RARE, ["p"], [4])
        machine = run(book, 9, [Swap("p", 0), Swap("p", 1)], x=[1], y=[1], z=[1])
        self.check(machine, {("p", "x", 0): [("station", "p", 0)]})
        machine = run(book, 9, [Swap("p", 1)], x=[0, 1], y=[1], z=[1])
        self.check(machine, {})

    def test_what_was_left_waiting_before(self):
        # y should have been served in tick 0; so x, which comes in tick 1, finds no place in time.
        book = forced(forced(base(), "y", RARE, ["p"], [2]), "x", RARE, ["p"], [1])
        machine = run(book, 9, [Idle("p", 0, 1)], y=[1], x=[0, 1])
        self.check(machine, {("p", "x", 0): [("station", "p", 0)]})
        # In tick 0 the station served w instead, which has more time.
        book = forced(book, "w", RARE, ["p"], [9])
        machine = run(book, 9, [Swap("p", 0)], y=[1], x=[0, 1], w=[1])
        self.check(machine, {("p", "x", 0): [("station", "p", 0)]})
        # A unit that is less pressing than x does not matter.
        machine = run(book, 9, [Idle("p", 0, 1)], w=[1], x=[0, 1])
        self.check(machine, {})

    def test_busy_for_several_ticks(self):
        burst = Curve([3] * 6, period=6, gain=1)
        book = forced(forced(base(), "y", burst, ["p"], [4]), "x", RARE, ["p"], [1])
        machine = run(book, 12, [Idle("p", 0, 1)], y=[3], x=[0, 0, 0, 1])
        self.assertEqual(machine.late(), [(4, "p", "x", 0)])
        self.check(machine, {("p", "x", 0): [("station", "p", 0)]})

    def test_a_leak(self):
        book = forced(forced(base(), "y", RARE, ["p"], [2]), "x", RARE, ["p"], [2])
        machine = run(book, 9, [Leak("y", 0, 2)], y=[3], x=[1])
        self.check(machine, {("p", "y", 2): [("police", "y", 1, 0, 2)], ("p", "x", 0): [("police", "y", 1, 0, 2)]})
        # The breach is that of the whole record: here of a shorter window, later.
        machine = run(book, 20, [Leak("y", 1, 1), Leak("y", 2, 2), Leak("y", 12, 5)], y=[1, 1, 2] + [0] * 9 + [6], x=[0, 0, 1])
        self.assertEqual(chain(machine, *machine.late()[0][1:])[-1], ("police", "y", 1, 2, 1))

    def test_the_first_stream_with_too_many(self):
        book = base()
        for name in ("a", "b", "x"):
            book = forced(book, name, RARE, ["p"], [3])
        machine = run(book, 9, [Leak("b", 0, 1), Leak("a", 0, 1)], a=[2], b=[2], x=[1])
        ends = {chain(machine, *one[1:])[-1] for one in machine.late()}
        self.assertEqual(ends, {("police", "a", 1, 0, 1)})
        machine = run(book, 9, [Leak("b", 0, 1)], a=[1], b=[2], x=[1])
        ends = {chain(machine, *one[1:])[-1] for one in machine.late()}
        self.assertEqual(ends, {("police", "b", 1, 0, 1)})

    def test_held_units_that_meet_others(self):
        # y's units have time, but two of them that are held come with x; only one of six ticks should.
        book = forced(forced(base(), "y", Curve([1, 1, 1], period=3, gain=1), ["p"], [4]), "x", RARE, ["p"], [1])
        machine = run(book, 12, [Hold("y", 0, 0, 3)], y=[1], x=[0, 0, 0, 1])
        self.check(machine, {("p", "x", 0): [("hold", "y", 0, "p", 3)]})
        # Of several units that were late released the first one, though the second one was held less.
        book = forced(forced(base(), "y", ONE, ["p"], [5]), "x", RARE, ["p"], [1])
        machine = run(book, 12, [Hold("y", 0, 0, 4), Hold("y", 1, 0, 2)], y=[1, 1], x=[0, 0, 0, 0, 1])
        self.assertEqual(chain(machine, "p", "x", 0), [("p", "x", 0), ("hold", "y", 0, "p", 4)])

    def test_units_of_another_stream_that_came_late(self):
        # y is late at p, comes to q too late, and there x finds no place.
        book = forced(forced(base(), "y", RARE, ["p", "q"], [1, 4]), "x", RARE, ["q"], [1])
        faults = [Idle("p", tick, 1) for tick in (0, 1, 2, 3)]
        machine = run(book, 12, faults, y=[1], x=[0, 0, 0, 0, 0, 1])
        last = [("p", "y", 0), ("station", "p", 0)]
        self.check(machine, {("p", "y", 0): last[1:], ("q", "y", 0): last, ("q", "x", 0): last})
        # It is in time at q for its own due, so it is not late there, but x is.
        machine = run(book, 12, faults[:3], y=[1], x=[0, 0, 0, 0, 1])
        self.assertEqual(chain(machine, "q", "x", 0), [("q", "x", 0), ("p", "y", 0), ("station", "p", 0)])

    def test_books_that_are_not_safe(self):
        book = forced(base(), "x", TWO, ["p"], [1])
        self.check(run(book, 4, x=[2]), {("p", "x", 1): [("book", "p", 0, 1)]})
        self.check(run(book, 4, x=[1, 2]), {("p", "x", 2): [("book", "p", 0, 2)]})
        self.check(run(book, 4, x=[0, 2]), {("p", "x", 1): [("book", "p", 1, 2)]})
        nothing = forced(base(capacity=0), "x", RARE, ["p"], [3])
        # A station of no capacity always serves all that it can.
        self.check(run(nothing, 9, x=[0, 0, 1]), {("p", "x", 0): [("book", "p", 0, 5)]})
        book = forced(forced(base(), "x", ONE, ["p", "q"], [1, 1]), "y", ONE, ["p"], [1])
        self.check(run(book, 9, y=[1], x=[1]), {("p", "y", 0): [("book", "p", 0, 1)]})
        book = forced(forced(base(), "y", ONE, ["p"], [1]), "x", ONE, ["p", "q"], [1, 1])
        self.check(run(book, 9, y=[1], x=[1]), {("p", "x", 0): [("book", "p", 0, 1)],
                                               ("q", "x", 0): [("p", "x", 0), ("book", "p", 0, 1)]})

    def test_late_from_the_release_on(self):
        # Released behind its due, so late although it was served at once.
        book = forced(base(capacity=5), "x", ONE, ["p"], [1])
        machine = run(book, 9, [Hold("x", 0, 0, 5)], x=[1])
        self.assertEqual(chain(machine, "p", "x", 0), [("p", "x", 0), ("hold", "x", 0, "p", 5)])


if __name__ == "__main__":
    unittest.main()
