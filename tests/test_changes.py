"""Changes of books: ends, earliest ticks, and capacities."""

import random
import unittest

import dueways.errors as errors
from dueways.admission import admit
from dueways.book import Book
from dueways.changes import change_capacity, earliest, end_stream
from dueways.curves import Curve
from dueways.machine import Machine
from dueways.network import Network, Station
from dueways.records import tightest
from dueways.runs import first_trouble, forced
from made import CURVES, any_book, curve, drawn_path
from plain import NO_COUNTS, NO_INTEGERS
from plain_admission import Tried
from plain_changes import ended, window, with_change, with_lives
from test_admission import drawn_books
from test_refusals import counted, played

ONE = Curve([1], gain=1)
NO_TICKS = NO_COUNTS + [1001, 10 ** 18]
NO_NAMES = [value for value in NO_INTEGERS if value != "1"] + ["A", "abcdefghi", "", 0]


def pair():
    """Return a book without streams of two stations."""
    return Book(Network([Station("p", 1, 4), Station("q", 2, 4)], [("p", "q", 2)]))


def reserved(book):
    """Return a copy of a book in which its first stream has a reserve."""
    twin = book.clone()
    twin.put_reserve(book.names()[0], (("q",), (1,)))
    return twin


def of_ten():
    book = pair()
    for name in "abcdefghij":
        book = forced(book, name, Curve([0]), ["p"], [1])
    return book


class Case(unittest.TestCase):
    def refuse(self, book, error, told, call, *args, **more):
        """Check that a call raises an error with this attribute and leaves the book as it was."""
        before = book.clone()
        with self.subTest(call.__name__, args=args, more=more):
            with self.assertRaises(error) as caught:
                call(book, *args, **more)
            self.assertIs(type(caught.exception), error)
            for name, value in told.items():
                self.assertEqual(getattr(caught.exception, name), value)
                self.assertIs(type(getattr(caught.exception, name)), type(value))
        self.assertTrue(book == before)


class TestEnds(Case):
    def test_each_tick(self):
        lives = [(2, 5, ("p",), (1,)), (6, None, ("p", "q"), (2, 1))]
        for last in (None, 9, 6):
            book = pair()
            book.put_stream("x", ONE, 9, [lives[0], (6, last, *lives[1][2:])])
            book.put_stream("y", ONE, 9, [(0, None, ("q",), (1,))])
            for at in range(12):
                twin = book.clone()
                if at < 6 or (last is not None and at > last):
                    self.refuse(twin, errors.InvalidTick, {"value": at}, end_stream, "x", at)
                    continue
                self.assertIsNone(end_stream(twin, name="x", at=at))
                self.assertEqual(twin.lives_of("x"), [lives[0], (6, at, ("p", "q"), (2, 1))])
                self.assertTrue(twin == ended(book, "x", at))
                # It may end again, not later.
                self.assertIsNone(end_stream(twin, "x", 6))
                if at < 11:
                    self.refuse(twin, errors.InvalidTick, {"value": at + 1}, end_stream, "x", at + 1)
        endless = pair()
        endless.put_stream("x", ONE, 9, [(1000, None, ("p",), (1,))])
        end_stream(endless, "x", 1000)
        self.assertEqual(endless.lives_of("x")[-1][:2], (1000, 1000))

    def test_safe_books_stay_safe(self):
        chance = random.Random(211)
        ends = 0
        for book in drawn_books(60, 212):
            for name in book.names():
                begin, end, _, _ = book.lives_of(name)[-1]
                at = chance.randint(begin, begin + 6 if end is None else end)
                before = book.clone()
                end_stream(book, name, at)
                self.assertTrue(book == ended(before, name, at))
                self.assertTrue(book.is_safe())
                ends += 1
        self.assertGreater(ends, 60)

    def test_others_keep_their_times(self):
        book = pair()
        times = [admit(book, name, Curve([1, 1], period=2, gain=1), ["p", "q"], 30) for name in "ab"]
        end_stream(book, "a", 4)
        times.append(admit(book, "c", Curve([1, 1], period=2, gain=1), ["p", "q"], 30, begin=8))
        machine = Machine(book)
        for tick in range(20):
            machine.step(handed={"a": 1, "b": 1, "c": 1})
        self.assertEqual([machine.late(), machine.full()], [[], None])
        self.assertEqual(machine.entered("a"), [1, 0, 1, 0] + [0] * 16)
        for name, split in zip("abc", times):
            ticks = [tick for tick, units in enumerate(machine.entered(name)) for _ in range(units)]
            self.assertEqual(machine.arrivals(name), [tick + sum(split) + 2 if tick + sum(split) + 2 <= 20 else None
                                                      for tick in ticks])

    def test_errors(self):
        book = pair()
        admit(book, "x", ONE, ["p"], 9, begin=3)
        for name in NO_NAMES + ["y", "p"]:
            for at in (3, 2, None):
                self.refuse(book, errors.UnknownStream, {"value": name}, end_stream, name, at)
                self.refuse(reserved(book), errors.UnknownStream, {"value": name}, end_stream, name, at)
        for at in NO_TICKS + [2, 0]:
            self.refuse(book, errors.InvalidTick, {"value": at}, end_stream, "x", at)
            self.refuse(reserved(book), errors.HasReserves, {}, end_stream, "x", at)
        self.refuse(reserved(book), errors.HasReserves, {}, end_stream, "x", 3)


class TestEarliest(Case):
    def check(self, book, name, new, path, within, begin, until):
        """Compare with trying each tick; return the answer."""
        expected = []
        for tick in range(begin, until + 1):
            tried = Tried(book, new, tick)
            best = tried.best(path)
            if best is not None and tried.total(path, best) <= within:
                break
            expected.append(tick)
        else:
            tick = None
        before = book.clone()
        told = earliest(book, name, new, path, within, begin=begin, until=until)
        self.assertTrue(book == before)
        self.assertIsInstance(told, tuple)
        found, refusals = told
        self.assertEqual(found, tick)
        self.assertEqual([refusal.begin for refusal in refusals], expected)
        if found is not None:
            admit(before, name, new, path, within, begin=found)
            self.assertTrue(before.is_safe())
        return told

    def test_by_trying_each_tick(self):
        chance = random.Random(213)
        found = []
        for book in drawn_books(24, 214) + busy_books():
            new = curve(chance.choice(CURVES))
            path = drawn_path(chance, book.network, 2)
            begin = chance.choice([0, 1, 4])
            told = self.check(book, "z", new, path, chance.choice([4, 8, 12]), begin, begin + chance.choice([0, 3, 6]))
            found.append((told[0] is None, len(told[1]) > 0))
        self.assertEqual(set(found), {(True, True), (False, True), (False, False)})

    def test_refusals(self):
        chance = random.Random(215)
        kinds = []
        for book in busy_books():
            new, path = Curve([2], gain=1), ["p", "q"]
            tick, refusals = earliest(book, "z", new, path, 4, begin=0, until=5)
            for begin, refusal in enumerate(refusals):
                self.assertEqual((refusal.name, refusal.within, refusal.begin), ("z", 4, begin))
                self.assertEqual(refusal.path(), path)
                tried = Tried(book, new, begin)
                self.assertEqual(refusal.table(), tried.table(path, 4))
                split = chance.choice([[1, 1], [1, 2], [2, 1]])
                kind, station, start, end = refusal.trouble(split)
                kinds.append(kind)
                twin = forced(book, "z", new, path, split, begin=begin)
                run = refusal.run(split)
                units = counted(twin, run, (kind, station, start, end))
                self.assertGreater(units, twin.supply_of(station).between(start, end) if kind == "time"
                                   else twin.network.find(station).room)
                self.assertIsNotNone(first_trouble(played(twin, run)))
        self.assertGreater(len(kinds), 8)

    def test_an_end_makes_place(self):
        book = pair()
        admit(book, "x", ONE, ["p"], 9)
        self.check(book, "z", ONE, ["p"], 12, 0, 5)
        self.assertIsNone(earliest(book, "z", ONE, ["p"], 12, begin=0, until=5)[0])
        end_stream(book, "x", 4)
        told = self.check(book, "z", ONE, ["p"], 1, 1, 9)
        self.assertEqual([told[0], len(told[1])], [4, 3])
        told[1].clear()
        self.assertEqual(len(earliest(book, "z", ONE, ["p"], 1, begin=1, until=9)[1]), 3)
        self.assertEqual(len(earliest(book, "z", ONE, ["p"], 1, begin=1, until=3)[1]), 3)
        # With more time the units can wait for the end.
        told = self.check(book, "z", ONE, ["p"], 2, 1, 9)
        self.assertEqual([told[0], len(told[1])], [3, 2])

    def test_until(self):
        book = pair()
        admit(book, "x", ONE, ["p"], 9)
        end_stream(book, "x", 60)
        self.assertEqual(earliest(book, "z", ONE, ["p"], 1, begin=60, until=60), (60, []))
        told = earliest(book=book, name="z", curve=ONE, path=["p"], within=1, begin=0, until=60)
        self.assertEqual((told[0], len(told[1])), (60, 60))
        told = earliest(book, "z", ONE, ["p"], 1, begin=1, until=59)
        self.assertEqual((told[0], len(told[1])), (None, 59))
        self.assertEqual(earliest(book, "z", ONE, ["p"], 1, begin=1000, until=1000), (1000, []))
        for begin, until in [(0, 61), (5, 4), (5, 66), (1000, 1001), (990, 1001)]:
            self.refuse(book, errors.InvalidTick, {"value": until}, earliest, "z", ONE, ["p"], 1, begin=begin,
                        until=until)
        for until in NO_TICKS:
            self.refuse(book, errors.InvalidTick, {"value": until}, earliest, "z", ONE, ["p"], 1, begin=0, until=until)

    def test_errors(self):
        book = pair()
        admit(book, "x", ONE, ["p"], 9)
        wide = tightest([1] + [0] * 25 + [1])
        wrong = [
            ("name", [(value, errors.InvalidName, {"value": value}) for value in NO_NAMES]),
            ("name", [("x", errors.NameTaken, {"taken": "x"})]),
            ("curve", [(Curve([1, 3]), errors.NotGood, {"first": 1, "second": 1}), (wide, errors.TooLong, {"limit": 24})]),
            ("path", [(value, errors.InvalidPath, {"position": 0}) for value in [None, (), ("p",), [], "p", ["z"]]]),
            ("path", [(["p", "q", "p"], errors.InvalidPath, {"position": 2})]),
            ("within", [(value, errors.InvalidTime, {"value": value}) for value in NO_COUNTS + [101]]),
            ("begin", [(value, errors.InvalidTick, {"value": value}) for value in NO_TICKS]),
            ("until", [(value, errors.InvalidTick, {"value": value}) for value in [-1, 61, None, True]]),
        ]
        right = {"name": "z", "curve": ONE, "path": ["p"], "within": 9, "begin": 0, "until": 9}
        for place, (part, cases) in enumerate(wrong):
            for value, error, told in cases:
                self.refuse(book, error, told, earliest, **{**right, part: value})
                for other, others in wrong[place + 1:]:
                    if other != part:
                        self.refuse(book, error, told, earliest, **{**right, part: value, other: others[0][0]})
                for twin in (reserved(book), of_ten(), reserved(of_ten())):
                    if part != "until" and error is not errors.NameTaken:
                        self.refuse(twin, error, told, earliest, **{**right, part: value})
        for until in (9, -1):
            asked = {**right, "until": until}
            self.refuse(reserved(book), errors.HasReserves, {}, earliest, **asked)
            self.refuse(reserved(of_ten()), errors.HasReserves, {}, earliest, **asked)
            self.refuse(of_ten(), errors.TooMany, {"limit": 10}, earliest, **asked)


def busy_books():
    """Return safe books in which streams end, and others begin later, at two stations."""
    found = []
    for end, begin in [(3, None), (4, 8), (2, 5), (6, None)]:
        book = Book(Network([Station("p", 2, 9), Station("q", 2, 9)], [("p", "q", 1)]))
        admit(book, "x", Curve([2], gain=2), ["p", "q"], 20)
        end_stream(book, "x", end)
        if begin is not None:
            admit(book, "y", ONE, ["p", "q"], 20, begin=begin)
        found.append(book)
    return found


class TestCapacities(Case):
    def test_by_windows(self):
        chance = random.Random(216)
        found = {True: 0, False: 0}
        for book in drawn_books(50, 217):
            for _ in range(4):
                station, capacity = chance.choice(book.network.names()), chance.randint(0, 4)
                last = max([tick for tick, _ in book.supply_of(station).changes()], default=0)
                at = last + chance.choice([1, 2, 7])
                twin = with_change(book, station, at, capacity)
                expected = window(twin, station)
                if expected is None:
                    self.assertIsNone(change_capacity(book, station, at, capacity))
                    self.assertTrue(book == twin)
                    self.assertTrue(book.is_safe())
                else:
                    self.refuse(book, errors.Overfull, {"at_station": station, "window": expected}, change_capacity,
                                station, at, capacity)
                found[expected is None] += 1
        self.assertGreater(min(found.values()), 40)

    def test_less_more_and_the_same(self):
        book = pair()
        admit(book, "x", ONE, ["q"], 9)
        self.assertIsNone(change_capacity(book=book, station="q", at=1, capacity=1))
        self.assertEqual(book.supply_of("q").changes(), [(1, 1)])
        self.refuse(book, errors.Overfull, {"at_station": "q", "window": (4, 5)}, change_capacity, "q", 4, 0)
        # What is the same anyway is not kept, so a change at this tick is still possible.
        self.assertIsNone(change_capacity(book, "q", 9, 1))
        self.assertEqual(book.supply_of("q").changes(), [(1, 1)])
        change_capacity(book, "q", 5, 20)
        self.assertEqual(book.supply_of("q").changes(), [(1, 1), (5, 20)])
        end_stream(book, "x", 3)
        change_capacity(book, "q", 6, 0)
        self.assertEqual(book.supply_of("q").changes(), [(1, 1), (5, 20), (6, 0)])
        change_capacity(book, "p", 1000, 3)
        self.assertEqual(book.supply_of("p").changes(), [(1000, 3)])
        self.assertFalse(book.is_plain())

    def test_books_that_are_not_safe(self):
        book = forced(pair(), "x", Curve([2], gain=2), ["p"], [1])
        self.refuse(book, errors.Overfull, {"at_station": "p", "window": (0, 1)}, change_capacity, "p", 3, 1)
        change_capacity(book, "q", 3, 1)
        self.refuse(book, errors.Overfull, {"at_station": "p", "window": (0, 1)}, change_capacity, "p", 3, 2)

    def test_errors(self):
        book = pair()
        admit(book, "x", ONE, ["p"], 9)
        change_capacity(book, "p", 5, 2)
        self.assertFalse(book.has_reserves())
        with_reserve = reserved(book)
        for station in NO_NAMES + ["x", "r"]:
            for twin in (book, with_reserve):
                self.refuse(twin, errors.UnknownStation, {"value": station}, change_capacity, station, -1, -1)
        for at in NO_TICKS + [0, 1, 4, 5]:
            for capacity in (1, -1, None):
                self.refuse(book, errors.InvalidTick, {"value": at}, change_capacity, "p", at, capacity)
                self.refuse(with_reserve, errors.HasReserves, {}, change_capacity, "p", at, capacity)
        for at in NO_TICKS + [0]:
            self.refuse(book, errors.InvalidTick, {"value": at}, change_capacity, "q", at, 3)
        several = book.clone()
        change_capacity(several, "p", 8, 3)
        for at in (5, 6, 7, 8):
            self.refuse(several, errors.InvalidTick, {"value": at}, change_capacity, "p", at, 4)
        for capacity in NO_COUNTS + [21, 10 ** 9]:
            self.refuse(book, errors.InvalidCount, {"value": capacity}, change_capacity, "p", 6, capacity)
        self.refuse(book, errors.Overfull, {"at_station": "p", "window": (6, 7)}, change_capacity, "p", 6, 0)
        self.refuse(with_reserve, errors.HasReserves, {}, change_capacity, "q", 6, 2)

    def test_with_several_lives(self):
        chance = random.Random(218)
        for _ in range(30):
            book = any_book(chance, many=3, changes=False)
            for station in book.network.names():
                twin = with_change(book, station, 4, 3)
                expected = window(twin, station)
                if expected is None:
                    change_capacity(book, station, 4, 3)
                    self.assertTrue(book == twin)
                else:
                    self.refuse(book, errors.Overfull, {"window": expected}, change_capacity, station, 4, 3)
        self.assertTrue(with_lives(book, "a", book.lives_of("a")) == book)


if __name__ == "__main__":
    unittest.main()
