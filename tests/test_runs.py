"""Runs: books with streams that are forced into them, runs that are played, and the first trouble of a machine."""

import random
import unittest

import dueways.errors as errors
from dueways.admission import admit
from dueways.book import Book
from dueways.curves import Curve
from dueways.faults import Hold, Idle
from dueways.machine import Machine
from dueways.network import Network, Station, check_split
from dueways.records import tightest
from dueways.runs import first_trouble, forced, play
from made import CURVES, any_book, curve, drawn_path, safe_book
from plain import NO_COUNTS, NO_INTEGERS, Stranger
from plain_machine import PlainMachine, told_by
from test_machine import drawn_dict, drawn_faults
from test_refusals import refusals, splits_of

ONE = Curve([1], gain=1)
BAD = Curve([1, 3])
# Good, but not to be written with 24 values.
WIDE = tightest([1] + [0] * 25 + [1])


def pair():
    """Return a book without streams of two stations, one of which has a link to the other."""
    return Book(Network([Station("p", 1, 4), Station("q", 1, 4)], [("p", "q", 2)]))


def with_reserve(book):
    """Return a copy of a book in which its first stream has a reserve."""
    twin = book.clone()
    twin.put_reserve(book.names()[0], (("q",), (1,)))
    return twin


def of_ten(book):
    """Return a copy of a book with ten streams."""
    for name in "bcdefghijk"[len(book):]:
        book = forced(book, name, Curve([0], gain=0), ["p"], [1])
    return book


class TestForced(unittest.TestCase):
    def test_safe_or_not(self):
        chance = random.Random(201)
        safe = []
        for number in range(60):
            book = safe_book(chance, many=3) if number % 2 else any_book(chance, many=2)
            path, new = drawn_path(chance, book.network), curve(chance.choice(CURVES))
            split = [chance.randint(1, 4) for _ in path]
            begin = chance.choice([0, 3, 1000])
            before, told = book.clone(), [list(path), list(split)]
            twin = forced(book, "z", new, path, split, begin=begin)
            self.assertTrue(book == before)
            self.assertEqual([path, split], told)
            path.append("x")
            split.clear()
            self.assertEqual(twin.names(), book.names() + ["z"])
            self.assertEqual(twin.lives_of("z"), [(begin, None, tuple(told[0]), tuple(told[1]))])
            self.assertEqual(twin.within_of("z"), check_split(book.network, *told))
            self.assertEqual(twin.curve_of("z"), new)
            self.assertIsNone(twin.reserve_of("z"))
            for name in book.names():
                self.assertEqual(twin.lives_of(name), book.lives_of(name))
                self.assertEqual(twin.within_of(name), book.within_of(name))
            for station in book.network.names():
                self.assertEqual(twin.supply_of(station), book.supply_of(station))
            safe.append(twin.is_safe())
        self.assertIn(True, safe)
        self.assertIn(False, safe)

    def test_as_admitted(self):
        book = pair()
        split = admit(book, "x", ONE, ["p", "q"], 4)
        self.assertTrue(forced(pair(), "x", ONE, ["p", "q"], split) == book)
        other = pair()
        admit(other, "x", ONE, ["p", "q"], 5)
        self.assertFalse(forced(pair(), "x", ONE, ["p", "q"], split) == other)
        twin = forced(book=pair(), name="x", curve=ONE, path=["p"], split=[12], begin=2)
        self.assertEqual((twin.within_of("x"), twin.lives_of("x")), (12, [(2, None, ("p",), (12,))]))
        self.assertEqual(forced(pair(), "x", ONE, ["p"], [1]).lives_of("x"), [(0, None, ("p",), (1,))])

    def test_errors(self):
        book = forced(pair(), "a", ONE, ["p"], [1])
        right = ["z", ONE, ["p"], [1], 0]
        wrong = [
            (0, [(value, errors.InvalidName, value) for value in NO_INTEGERS + [0, "A", "abcdefghi", "a b"]]),
            (0, [("a", errors.NameTaken, "a")]),
            (1, [(BAD, errors.NotGood, (1, 1)), (WIDE, errors.TooLong, 24)]),
            (2, [(value, errors.InvalidPath, 0) for value in [None, (), ("p",), "p", [], list("pqrstu"), {}, ["x"]]]),
            (2, [(["p", "p"], errors.InvalidPath, 1), (["q", "p"], errors.InvalidPath, 1)]),
            (3, [(value, errors.InvalidSplit, 0) for value in [None, (1,), "1", {}, [], [0], [13], [True], ["1"]]]),
            (3, [([1, 1], errors.InvalidSplit, 1), ([1, 0], errors.InvalidSplit, 1)]),
            (4, [(value, errors.InvalidTick, value) for value in NO_COUNTS + [1001]]),
        ]
        wrong = [(position, *case) for position, cases in wrong for case in cases]
        for position, value, error, told in wrong:
            asked = list(right)
            asked[position] = value
            self.check(book, asked, error, told)
            # With any wrong value behind it, the first one decides.
            for later, other, _, _ in wrong:
                if later > position:
                    again = list(asked)
                    again[later] = other
                    self.check(book, again, error, told)
            self.check(with_reserve(book), asked, error, told)
            self.check(of_ten(book), asked, error, told)
        self.check(with_reserve(book), right, errors.HasReserves, None)
        self.check(with_reserve(of_ten(book)), right, errors.HasReserves, None)
        self.check(of_ten(book), right, errors.TooMany, 10)
        self.assertEqual(len(of_ten(pair())), 10)

    def check(self, book, asked, error, told):
        name, new, path, split, begin = asked
        before = book.clone()
        with self.assertRaises(error) as caught:
            forced(book, name, new, path, split, begin=begin)
        self.assertIs(type(caught.exception), error)
        self.assertTrue(book == before)
        if error is errors.NotGood:
            self.assertEqual((caught.exception.first, caught.exception.second), told)
        elif told is not None:
            names = {errors.InvalidPath: "position", errors.InvalidSplit: "position", errors.NameTaken: "taken",
                     errors.TooLong: "limit", errors.TooMany: "limit"}
            self.assertEqual(getattr(caught.exception, names.get(error, "value")), told)


class TestPlay(unittest.TestCase):
    def test_by_handing_in(self):
        chance = random.Random(202)
        for _ in range(60):
            book = any_book(chance)
            run = {name: (chance.randint(0, 12), [chance.randint(0, 3) for _ in range(chance.randint(0, 14))])
                   for name in book.names() if chance.randint(0, 3)}
            ticks = chance.randint(0, 24)
            before = ({name: (first, list(record)) for name, (first, record) in run.items()}, book.clone())
            machine = play(book, run, ticks)
            self.assertEqual(run, before[0])
            self.assertTrue(book == before[1])
            plain = PlainMachine(book, 60)
            for tick in range(ticks):
                plain.step({name: record[tick - first] for name, (first, record) in run.items()
                            if first <= tick < first + len(record)}, {})
            self.assertEqual(told_by(machine), plain.told())
            self.assertTrue(machine.book() == book)
            self.assertEqual(told_by(play(book=book, run=run, ticks=ticks)), told_by(machine))

    def test_the_queue(self):
        book = forced(pair(), "x", Curve([0], gain=0), ["p"], [1])
        machine = play(book, {"x": (1, [30, 31, 5])}, 4)
        self.assertEqual([machine.waiting("x"), machine.sent_back("x")], [60, 6])

    def test_ends_and_begins(self):
        book = forced(pair(), "x", Curve([9], gain=9), ["p"], [1])
        self.assertEqual(play(book, {"x": (0, [1, 2, 3])}, 2).entered("x"), [1, 2])
        self.assertEqual(play(book, {"x": (2, [1, 2, 3])}, 2).entered("x"), [0, 0])
        self.assertEqual(play(book, {"x": (2, [1, 2, 3])}, 3).entered("x"), [0, 0, 1])
        self.assertEqual(play(book, {"x": (900, [1])}, 1).entered("x"), [0])
        self.assertEqual(play(book, {"x": (1, [1])}, 4).entered("x"), [0, 1, 0, 0])
        self.assertEqual(play(book, {"x": (0, [])}, 1).entered("x"), [0])
        self.assertEqual([play(book, {}, 0).tick, play(book, {"x": (0, [1])}, 0).entered("x")], [0, []])
        long = play(book, {"x": (399, [1, 1])}, 400)
        self.assertEqual([long.tick, sum(long.entered("x")), long.arrivals("x")], [400, 1, [400]])

    def test_runs_of_refusals(self):
        chance = random.Random(203)
        kinds = []
        for book, new, begin, refusal in refusals(25, 204):
            for split in splits_of(book, refusal, chance, 3):
                kind, station, start, end = refusal.trouble(split)
                twin = forced(book, refusal.name, new, refusal.path(), split, begin=begin)
                machine = play(twin, refusal.run(split), min(400, end + 130))
                self.assertTrue(any(sum(machine.entered(name)) for name in twin.names()))
                found = first_trouble(machine)
                self.assertIsNotNone(found)
                if kind == "room":
                    self.assertLessEqual(found[0], start)
                kinds.append(found[1])
        self.assertIn("late", kinds)
        self.assertIn("full", kinds)

    def test_errors(self):
        book = forced(pair(), "x", ONE, ["p"], [1])
        runs = [None, [], (), "x", 0, True, Stranger(), [("x", (0, [1]))], {"y": (0, [1])}, {"p": (0, [1])},
                {1: (0, [1])}, {None: (0, [])}, {"x": [0, [1]]}, {"x": (0,)}, {"x": (0, [1], 1)}, {"x": None},
                {"x": (0, (1,))}, {"x": (0, "1")}, {"x": (0, {})}, {"x": (0, None)}, {"x": (0, [1]), "y": (0, [1])}]
        runs += [{"x": (value, [1])} for value in NO_COUNTS] + [{"x": (0, [1, value])} for value in NO_COUNTS]
        for run in runs:
            for ticks in (3, -1, 401):
                with self.subTest(run), self.assertRaises(errors.InvalidHanded):
                    play(book, run, ticks)
        for ticks in NO_COUNTS + [401, 10 ** 9]:
            with self.subTest(ticks), self.assertRaises(errors.InvalidCount) as caught:
                play(book, {"x": (0, [1])}, ticks)
            self.assertEqual(caught.exception.value, ticks)


class TestFirstTrouble(unittest.TestCase):
    def plainly(self, plain):
        """Return the first trouble by the whole history of a plain machine."""
        stations = plain.book.network.names()
        found = [(tick, stations.index(station), 0, "full", station) for tick, station in plain.all_full]
        for unit in plain.everyone():
            for stay in unit["stays"]:
                since = max(stay["due"], stay["release"] + 1)
                in_time = stay["served"] is not None and stay["served"] < stay["due"]
                if not in_time and since <= plain.tick:
                    found.append((since, stations.index(stay["station"]), 1, "late", stay["station"]))
        if not found:
            return None
        tick, _, _, kind, station = min(found)
        return tick, kind, station

    def test_tick_by_tick(self):
        chance = random.Random(205)
        kinds = []
        for number in range(90):
            book = any_book(chance, changes=bool(number % 2))
            faults = drawn_faults(chance, book, 4) if number % 3 else []
            machine, plain = Machine(book, queue=9, faults=faults), PlainMachine(book, 9, faults)
            for _ in range(18):
                self.assertEqual(first_trouble(machine), self.plainly(plain))
                handed = drawn_dict(chance, book.names(), 4)
                machine.step(handed=handed)
                plain.step(handed, {})
            before = told_by(machine)
            told = first_trouble(machine=machine)
            self.assertEqual(told, self.plainly(plain))
            self.assertEqual(told, first_trouble(machine))
            self.assertEqual(told_by(machine), before)
            kinds.append(told[1] if told else None)
        self.assertEqual(set(kinds), {"late", "full", None})

    def test_late_before_and_after_full(self):
        network = Network([Station("p", 1, 2), Station("q", 1, 1)], [("p", "q", 0)])
        book = forced(Book(network), "x", Curve([2], gain=2), ["p"], [1])
        self.assertIsNone(first_trouble(Machine(book)))
        # Two units in tick 0: one is late from tick 1 on; in tick 1 three have places.
        self.assertEqual(first_trouble(play(book, {"x": (0, [2, 2])}, 2)), (1, "full", "p"))
        self.assertEqual(first_trouble(play(book, {"x": (0, [2, 1])}, 2)), (1, "late", "p"))
        self.assertEqual(first_trouble(play(book, {"x": (0, [2, 1])}, 1)), (1, "late", "p"))
        # The tick that is full is the present one: it was not done yet.
        self.assertEqual(first_trouble(play(book, {"x": (0, [2, 2])}, 1)), (1, "late", "p"))
        self.assertIsNone(first_trouble(play(book, {"x": (0, [1, 1])}, 9)))

    def test_at_two_stations(self):
        network = Network([Station("p", 1, 9), Station("q", 1, 1)])
        book = forced(forced(Book(network), "x", Curve([2], gain=2), ["p"], [1]), "y", Curve([3], gain=3), ["q"], [1])
        self.assertEqual(first_trouble(play(book, {"x": (0, [2]), "y": (1, [2])}, 3)), (1, "late", "p"))
        self.assertEqual(first_trouble(play(book, {"x": (1, [2]), "y": (1, [2])}, 3)), (1, "full", "q"))
        self.assertEqual(first_trouble(play(book, {"x": (1, [2]), "y": (2, [2])}, 4)), (2, "late", "p"))
        self.assertEqual(first_trouble(play(book, {"x": (3, [2]), "y": (1, [1, 1, 2])}, 9)), (3, "full", "q"))

    def test_from_when_on_a_unit_is_late(self):
        network = Network([Station("p", 1, 9), Station("q", 1, 9)], [("p", "q", 0)])
        book = forced(Book(network), "x", Curve([2], gain=2), ["p", "q"], [2, 1])
        # A unit that is held until behind its due is late from the tick after its release on.
        for ticks, expected in [(5, None), (6, (6, "late", "p")), (9, (6, "late", "p"))]:
            machine = Machine(book, faults=[Hold("x", 0, 0, 5)])
            for tick in range(ticks):
                machine.step(handed={"x": int(tick == 0)})
            self.assertEqual(first_trouble(machine), expected)
        # One that is served late at p is late at q from the tick after it came on.
        machine = Machine(book, faults=[Idle("p", 0, 1), Idle("p", 1, 1), Idle("p", 2, 1)])
        for tick in range(9):
            machine.step(handed={"x": int(tick == 0)})
        self.assertEqual(machine.late(), [(2, "p", "x", 0), (3, "q", "x", 0)])
        self.assertEqual(first_trouble(machine), (2, "late", "p"))


if __name__ == "__main__":
    unittest.main()
