"""Reroutes: a stream takes another path as early as possible, and no unit overtakes."""

import random
import unittest

import dueways.errors as errors
from dueways.admission import admit
from dueways.book import Book
from dueways.changes import end_stream, reroute
from dueways.curves import Curve
from dueways.machine import Machine
from dueways.network import Network, Station
from dueways.runs import forced
from made import any_book, drawn_path
from plain import NO_COUNTS
from plain_changes import TriedFurther, ended, rerouted, total
from test_admission import drawn_books
from test_changes import NO_NAMES, NO_TICKS, ONE, Case, reserved
from test_machine import drawn_dict


def pair(length=2):
    return Book(Network([Station("p", 1, 9), Station("q", 1, 9)], [("p", "q", length), ("q", "p", length)]))


class TestReroutes(Case):
    def check(self, book, name, path, within, at, until):
        """Compare with trying all ticks and splits; return the answer."""
        before = book.clone()
        expected = rerouted(book, name, path, within, at, until)
        self.assertTrue(book == before)
        asked = list(path)
        told = reroute(book, name, asked, within, at=at, until=until)
        self.assertEqual(asked, path)
        asked.clear()
        if expected is None:
            self.assertIsNone(told)
            self.assertTrue(book == before)
            return None
        begin, split, twin = expected
        self.assertEqual(told, (begin, split))
        self.assertIsInstance(told[1], list)
        told[1].clear()
        self.assertTrue(book == twin)
        self.assertEqual(book.within_of(name), within)
        self.assertEqual(book.lives_of(name), twin.lives_of(name))
        if before.is_safe():
            self.assertTrue(book.is_safe())
        return begin, split

    def test_by_trying_all_ticks_and_splits(self):
        chance = random.Random(221)
        told = []
        for book in drawn_books(50, 222):
            for name in book.names()[:3]:
                begin, end, _, _ = book.lives_of(name)[-1]
                if end is None and len(book.lives_of(name)) < 4:
                    at = begin + chance.choice([0, 1, 3, 8])
                    path = drawn_path(chance, book.network)
                    found = self.check(book, name, path, chance.choice([4, 9, 15, 40]), at, at + chance.choice([0, 2, 5]))
                    told.append(None if found is None else found[0] - at)
        self.assertGreater(told.count(None), 8)
        self.assertGreater(told.count(0), 8)
        self.assertGreater(len([wait for wait in told if wait]), 2)

    def test_several_lives(self):
        # Lives that have ended, one that begins later, one that ends at its begin.
        chance = random.Random(223)
        told = []
        for _ in range(40):
            book = drawn_books(1, chance.randint(0, 10 ** 6))[0]
            for name in book.names()[:2]:
                for _ in range(3):
                    begin, end, _, _ = book.lives_of(name)[-1]
                    if end is None and len(book.lives_of(name)) < 4:
                        at = begin + chance.choice([0, 0, 1, 4])
                        path = drawn_path(chance, book.network, 2)
                        told.append(self.check(book, name, path, chance.choice([6, 12, 30]), at, at + 4))
        self.assertGreater(len(told), 60)

    def test_no_unit_overtakes(self):
        # The old total is 13; a new one of 1 waits until it does not matter, or takes longer.
        for at, until, expected in [(5, 5, (5, [11])), (5, 10, (5, [11])), (0, 0, (0, [1]))]:
            book = pair()
            book.put_stream("x", Curve([1]), 20, [(0, None, ("p",), (12,))])
            self.assertEqual(self.check(book, "x", ["q"], 12, at, until), expected)
        for within, expected in [(12, (5, [11])), (10, (6, [10])), (3, (13, [3])), (1, (15, [1])), (0, None)]:
            book = pair()
            book.put_stream("x", Curve([1]), 20, [(0, None, ("p",), (12,))])
            self.assertEqual(self.check(book, "x", ["q"], within, 5, 20), expected)
        book = pair(10)
        book.put_stream("x", Curve([1]), 40, [(0, None, ("p", "q"), (12, 12))])
        # 5 - 1 + 34 is the last old arrival: with at most 12 ticks the new life begins at 26.
        self.assertEqual(self.check(book, "x", ["p"], 20, 5, 30), (26, [12]))
        self.assertEqual(self.check(book, "x", ["q"], 20, 30, 40), (30, [11]))

    def test_earlier_lives_count_too(self):
        book = pair(10)
        book.put_stream("x", Curve([1]), 40, [(0, 5, ("p", "q"), (12, 12)), (6, 6, ("p", "q"), (12, 12)),
                                             (7, None, ("p",), (1,))])
        # The second life lets no unit enter, but the first one does.
        self.assertEqual(self.check(book, "x", ["q"], 20, 8, 60), (26, [12]))
        book = pair(10)
        book.put_stream("x", Curve([1]), 40, [(0, 0, ("p", "q"), (12, 12)), (6, 6, ("p", "q"), (12, 12)),
                                             (7, None, ("p",), (3,))])
        self.assertEqual(self.check(book, "x", ["q"], 20, 7, 60), (7, [1]))
        self.assertEqual(book.lives_of("x")[2], (7, 7, ("p",), (3,)))

    def test_the_least_one_of_equal_totals(self):
        book = pair()
        book.put_stream("x", Curve([1]), 60, [(0, None, ("p", "q"), (8, 8))])
        self.assertEqual(self.check(book, "x", ["p", "q"], 60, 4, 4), (4, [3, 12]))

    def test_the_loads_in_which_the_old_life_ends(self):
        # While x goes on, nothing else fits at p; from its end on the units of its new life do.
        book = pair()
        self.assertEqual(admit(book, "x", ONE, ["p"], 9), [1])
        self.assertEqual(self.check(book, "x", ["p", "q"], 30, 6, 6), (6, [1, 1]))
        self.assertEqual(self.check(book, "x", ["p"], 30, 9, 9), (9, [3]))
        self.assertEqual(len(book.lives_of("x")), 3)
        machine = Machine(book)
        for _ in range(30):
            machine.step(handed={"x": 1})
        arrived = [tick for tick in machine.arrivals("x") if tick is not None]
        self.assertEqual([machine.late(), arrived], [[], sorted(arrived)])
        # Its own old units are there still.
        book = Book(Network([Station("p", 1, 1)]))
        book.put_stream("x", Curve([1], gain=0), 12, [(0, None, ("p",), (6,))])
        self.assertEqual(self.check(book, "x", ["p"], 12, 2, 20), (2, [5]))

    def test_books_that_are_not_safe(self):
        chance = random.Random(224)
        for _ in range(30):
            book = any_book(chance, many=2, changes=False, most=2)
            for name in book.names():
                begin, end, _, _ = book.lives_of(name)[-1]
                if end is None:
                    self.check(book, name, drawn_path(chance, book.network, 2), 20, begin + 2, begin + 3)

    def test_units_wait_in_between(self):
        book = pair()
        book.put_stream("x", ONE, 60, [(0, None, ("p",), (12,))])
        machine = Machine(book)
        for _ in range(4):
            machine.step(handed={"x": 1})
        now = machine.book()
        told = reroute(now, "x", ["q"], 9, at=machine.tick, until=30)
        self.assertEqual(told, (6, [9]))
        machine.use(now)
        machine.step(handed={"x": 1})
        machine.step(handed={"x": 1})
        self.assertEqual([machine.waiting("x"), machine.entered("x")], [2, [1, 1, 1, 1, 0, 0]])
        machine.step()
        machine.step()
        self.assertEqual([machine.waiting("x"), machine.entered("x")], [0, [1, 1, 1, 1, 0, 0, 1, 1]])
        for _ in range(12):
            machine.step()
        self.assertEqual([machine.arrivals("x"), machine.late()], [[12, 13, 14, 15, 15, 16], []])

    def test_in_machines_no_unit_overtakes_or_is_late(self):
        chance = random.Random(225)
        done = 0
        for book in drawn_books(60, 226):
            if not book.names():
                continue
            machine = Machine(book)
            for _ in range(4):
                for _ in range(chance.randint(0, 6)):
                    machine.step(handed=drawn_dict(chance, book.names(), 4))
                now, name = machine.book(), chance.choice(book.names())
                begin, end, _, _ = now.lives_of(name)[-1]
                if end is None and begin <= machine.tick and len(now.lives_of(name)) < 4:
                    told = reroute(now, name, drawn_path(chance, now.network), 40, at=machine.tick,
                                   until=machine.tick + 8)
                    done += told is not None
                    machine.use(now)
            for _ in range(40):
                machine.step(handed=drawn_dict(chance, book.names(), 4))
            self.assertEqual([machine.late(), machine.full()], [[], None])
            now = machine.book()
            for name in now.names():
                ticks = [tick for tick, units in enumerate(machine.entered(name)) for _ in range(units)]
                for tick, arrival in zip(ticks, machine.arrivals(name)):
                    life = [life for life in now.lives_of(name)
                            if life[0] <= tick and (life[1] is None or tick < life[1])][0]
                    self.assertIn(arrival, [None, tick + total(now.network, life[2], life[3])])
                arrivals = [tick for tick in machine.arrivals(name) if tick is not None]
                if len(book.lives_of(name)) == 1:
                    self.assertEqual(arrivals, sorted(arrivals))
        self.assertGreater(done, 40)

    def test_errors(self):
        book = pair()
        admit(book, "x", ONE, ["p"], 9, begin=3)
        four = pair()
        four.put_stream("x", ONE, 9, [(tick, tick + 1 if tick < 6 else None, ("p",), (1,)) for tick in (3, 4, 5, 6)])
        over = pair()
        over.put_stream("x", ONE, 9, [(tick, tick + 1, ("p",), (1,)) for tick in (3, 4, 5, 6)])
        right = {"name": "x", "path": ["q"], "within": 9, "at": 3, "until": 9}
        wrong = [
            ("name", [(value, errors.UnknownStream, {"value": value}) for value in NO_NAMES + ["y", "p"]]),
            ("path", [(value, errors.InvalidPath, {"position": 0}) for value in [None, ("p",), [], ["x"], {}]]),
            ("path", [(["p", "p"], errors.InvalidPath, {"position": 1})]),
            ("within", [(value, errors.InvalidTime, {"value": value}) for value in NO_COUNTS + [101]]),
            ("at", [(value, errors.InvalidTick, {"value": value}) for value in NO_TICKS + [2, 0]]),
            ("until", [(value, errors.InvalidTick, {"value": value}) for value in NO_TICKS + [2, 64]]),
        ]
        for place, (part, cases) in enumerate(wrong):
            for value, error, told in cases:
                self.refuse(book, error, told, reroute, **{**right, part: value})
                for other, others in wrong[place + 1:]:
                    if other != part:
                        self.refuse(book, error, told, reroute, **{**right, part: value, other: others[0][0]})
                for twin in (reserved(book), four, over, reserved(four)):
                    if part not in ("at", "until"):
                        self.refuse(twin, error, told, reroute, **{**right, part: value})
                if part in ("at", "until"):
                    self.refuse(reserved(four), errors.HasReserves, {}, reroute, **{**right, part: value})
                    self.refuse(four, errors.TooMany, {"limit": 4}, reroute, **{**right, part: value})
                    self.refuse(over, errors.TooMany, {"limit": 4}, reroute, **{**right, part: value})
        self.refuse(reserved(book), errors.HasReserves, {}, reroute, **right)
        self.refuse(four, errors.TooMany, {"limit": 4}, reroute, **{**right, "at": 6})
        end_stream(book, "x", 8)
        for at in (3, 7, 8, 9):
            self.refuse(book, errors.InvalidTick, {"value": at}, reroute, **{**right, "at": at})
            self.refuse(book, errors.InvalidTick, {"value": at}, reroute, **{**right, "at": at, "until": -1})

    def test_until(self):
        for at, until in [(3, 63), (1000, 1000), (3, 3)]:
            book = pair()
            admit(book, "x", ONE, ["p"], 9, begin=3)
            self.assertIsNotNone(self.check(book, "x", ["q"], 9, at, until) if at > 900 else
                                 reroute(book, name="x", path=["q"], within=9, at=at, until=until))
        book = pair()
        admit(book, "x", ONE, ["p"], 9)
        for at, until in [(0, 61), (940, 1001), (7, 6)]:
            self.refuse(book, errors.InvalidTick, {"value": until}, reroute, "x", ["q"], 9, at=at, until=until)

    def test_none_leaves_the_book(self):
        book = forced(pair(), "y", ONE, ["q"], [1])
        admit(book, "x", ONE, ["p"], 9)
        self.assertIsNone(self.check(book, "x", ["q"], 40, 4, 12))
        self.assertEqual([book.lives_of("x"), book.within_of("x")], [[(0, None, ("p",), (1,))], 9])

    def test_low_and_high_of_a_further_life(self):
        book = pair()
        admit(book, "x", Curve([2], gain=1), ["p"], 9)
        tried = TriedFurther(ended(book, "x", 3), "x", 4)
        self.assertEqual(tried.bounds("p", 0)[0], 2)


if __name__ == "__main__":
    unittest.main()
