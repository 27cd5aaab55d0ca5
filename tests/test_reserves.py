"""Reserves: books with them, the loads after each failure, dangers, and the books after failures."""

import random
import unittest

import dueways.errors as errors
from dueways.admission import admit, least_total
from dueways.book import Book
from dueways.changes import change_capacity, earliest, end_stream, reroute, shed
from dueways.cases import split_all
from dueways.curves import Curve
from dueways.loads import Load, Visit
from dueways.network import Network, Station, check_split
from dueways.reserves import after, find_danger, loads_after, with_reserves
from dueways.runs import forced
from dueways.windows import crowded, overfull
from made import CURVES, curve, drawn_network, drawn_path, safe_book
from plain import NO_INTEGERS, Stranger
from plain_reserves import danger, last_tick, loads_after as plain_loads, parts, after as plain_after
from test_changes import NO_NAMES, NO_TICKS, ONE, Case


def drawn_reserves(chance, book, most_time=5):
    """Return some reserves for streams of a book, as a dict of tuples of lists."""
    found = {}
    for name in book.names():
        path = drawn_path(chance, book.network)
        split = [chance.randint(1, most_time) for _ in path]
        if chance.randint(0, 3) and check_split(book.network, path, split) <= book.within_of(name):
            found[name] = (path, split)
    return found


def put(book, reserves):
    """Return a copy of a book with reserves, protected or not."""
    twin = book.clone()
    for name, (path, split) in reserves.items():
        twin.put_reserve(name, (tuple(path), tuple(split)))
    return twin


def drawn_unsafe(chance, many=3):
    """Return a plain book that most likely is not safe."""
    book = safe_book(chance, many=1)
    for name in "uvw"[:many - 1]:
        path = drawn_path(chance, book.network)
        book = forced(book, name, curve(chance.choice(CURVES)), path, [chance.randint(1, 4) for _ in path])
    return book


def drawn_tight(chance, many):
    """Return a safe plain book of few places whose streams come in bursts."""
    bursts = [([2, 2], 2, 1), ([3, 3, 3], 3, 1), ([2] * 4, 4, 1), ([3, 3, 3, 4], 4, 2), ([1, 1], 2, 1), ([4] * 6, 6, 2)]
    while True:
        book = Book(drawn_network(chance, 3, most_capacity=2, most_room=6))
        for name in "abcd"[:many]:
            path = drawn_path(chance, book.network)
            book = forced(book, name, curve(chance.choice(bursts)), path, [chance.randint(1, 6) for _ in path])
            book.put_stream(name, book.curve_of(name), 60, book.lives_of(name))
        if book.is_safe():
            return book


def ring(room=20, capacity=2, length=0):
    """Return a book of three stations, each of which may fail, without streams."""
    links = [(one, two, length) for one in "pqr" for two in "pqr" if one != two]
    return Book(Network([Station(name, capacity, room, may_fail=True) for name in "pqr"], links))


class TestDangers(Case):
    def check(self, book):
        """Compare the danger of a book with looking at each tick; return it."""
        expected = danger(book)
        before = book.clone()
        told = find_danger(book)
        self.assertTrue(book == before)
        if expected is None and told is not None:
            # Only streams that are too many by their rates are in danger only if they go on for long.
            failed, tick, kind, station, start, end = told
            self.assertGreater(tick, last_tick(book))
            self.assertFalse(book.is_safe())
            loads = [load for _, load in loads_after(book, failed, tick, station)]
            self.assertEqual((kind, overfull(book.supply_of(station), loads)), ("time", (start, end)))
            loads = [load for _, load in loads_after(book, failed, tick - 1, station)]
            self.assertIsNone(overfull(book.supply_of(station), loads))
        else:
            self.assertEqual(told, expected)
        self.assertEqual(find_danger(book=book), told)
        return told

    def test_by_looking_at_each_tick(self):
        chance = random.Random(251)
        kinds = []
        for number in range(60):
            book = safe_book(chance, many=chance.randint(2, 5))
            told = self.check(put(book, drawn_reserves(chance, book)))
            kinds.append(None if told is None else (told[2], told[1] > 1))
        later = []
        while min(later.count("time"), later.count("room")) < 4:
            book = drawn_tight(chance, chance.randint(1, 2))
            book = put(book, drawn_reserves(chance, book, 6))
            found = find_danger(book)
            if found is not None and found[1] > 1:
                self.assertEqual(self.check(book), found)
                later.append(found[2])
                kinds.append((found[2], True))
            elif chance.randint(0, 30) == 0:
                self.check(book)
        self.assertEqual(set(kinds), {None, ("time", False), ("time", True), ("room", False), ("room", True)})

    def test_books_that_are_not_safe(self):
        chance = random.Random(252)
        for _ in range(25):
            book = drawn_unsafe(chance)
            self.check(put(book, drawn_reserves(chance, book)))
            self.check(book)

    def test_books_without_reserves(self):
        chance = random.Random(253)
        for _ in range(15):
            self.assertIsNone(self.check(safe_book(chance, many=3)))
        self.assertIsNone(find_danger(ring()))
        # A stream that ends takes less: without reserves a failure hurts nobody else.
        self.assertIsNone(self.check(forced(ring(), "x", ONE, ["p"], [1])))
        self.assertEqual(self.check(forced(ring(), "x", Curve([3], gain=3), ["p", "q"], [1, 1])),
                         ("p", 2, "time", "q", 1, 2))
        self.assertIsNone(self.check(forced(Book(Network([Station("p", 1, 9), Station("q", 0, 9)])), "x", ONE, ["q"], [1])))

    def test_first_of_several(self):
        # Two streams come to r when p fails, and to p when q or r fails.
        book = ring(capacity=1)
        for name, path in [("x", ["p"]), ("y", ["r"])]:
            book = forced(book, name, ONE, path, [1])
        told = self.check(put(book, {"x": (["r"], [1]), "y": (["p"], [1])}))
        self.assertEqual(told, ("p", 1, "time", "r", 1, 2))
        told = self.check(put(book, {"y": (["p"], [1])}))
        self.assertEqual(told, ("r", 1, "time", "p", 1, 2))
        told = self.check(put(book, {"x": (["q", "r"], [2, 1]), "y": (["p"], [1])}))
        self.assertEqual(told, ("p", 1, "time", "r", 3, 4))
        self.assertIsNone(self.check(put(book, {"x": (["q"], [1]), "y": (["q"], [1])})))
        self.assertEqual(self.check(put(forced(book, "z", ONE, ["p"], [4]), {"x": (["q"], [1]), "z": (["q"], [1])}))[:2],
                         ("p", 1))

    def test_both_old_and_new_units(self):
        # x passes p and q, and q again by its reserve: units of the old way are there while new ones come.
        book = ring(capacity=1, length=0)
        book = forced(book, "x", Curve([2, 2], period=2, gain=1), ["p", "q"], [4, 2])
        self.assertEqual(self.check(put(book, {"x": (["q"], [2])})), ("p", 5, "time", "q", 4, 7))
        self.assertIsNone(self.check(put(book, {"x": (["r", "q"], [4, 2])})))
        # Units that were not released there before the failure are lost.
        self.assertIsNone(self.check(put(forced(ring(capacity=1), "x", ONE, ["p", "q"], [1, 2]), {"x": (["q"], [2])})))

    def test_late_ticks(self):
        # The old units come to q after 66 ticks, so only a failure after their first one meets the new ones.
        stations = [Station(name, 1, 40, may_fail=name == "a") for name in "abcq"]
        network = Network(stations, [("a", "b", 10), ("b", "c", 10), ("c", "q", 10)])
        book = forced(Book(network), "x", Curve([2, 2], period=2, gain=1), ["a", "b", "c", "q"], [12, 12, 12, 2])
        self.assertEqual(self.check(put(book, {"x": (["q"], [2])})), ("a", 67, "time", "q", 66, 69))

    def test_room(self):
        book = forced(ring(room=4, capacity=20), "x", Curve([2], gain=2), ["p"], [2])
        for time, expected in [(1, None), (2, None), (3, ("p", 1, "room", "q", 3, 4))]:
            self.assertEqual(self.check(put(book, {"x": (["q"], [time])})), expected)

    def test_stations_that_do_not_fail(self):
        for names, expected in [("", None), ("p", "p"), ("qr", None), ("pr", "p")]:
            links = [(one, two, 0) for one in "pqr" for two in "pqr" if one != two]
            book = Book(Network([Station(name, 1, 9, may_fail=name in names) for name in "pqr"], links))
            book = forced(forced(book, "x", ONE, ["p"], [1]), "y", ONE, ["q"], [1])
            told = self.check(put(book, {"x": (["q"], [1])}))
            self.assertEqual(told if told is None else told[0], expected)

    def test_streams_that_exceed_by_their_rates(self):
        # 13 units in 12 ticks are too many for q in the long run, so the later p fails the worse.
        stations = [Station("p", 2, 200, may_fail=True), Station("q", 1, 200), Station("r", 2, 200)]
        new = Curve(list(range(2, 14)), period=12, gain=13)
        book = forced(Book(Network(stations, [("p", "q", 0)])), "x", new, ["p", "q"], [1, 12])
        told = self.check(put(book, {"x": (["r"], [1])}))
        self.assertEqual(told[:4], ("p", 134, "time", "q"))

    def test_errors(self):
        book = forced(ring(), "x", ONE, ["p"], [1])
        ended, changed, later = book.clone(), book.clone(), forced(ring(), "x", ONE, ["p"], [1], begin=1)
        end_stream(ended, "x", 3)
        change_capacity(changed, "q", 3, 1)
        for twin in (ended, changed, later):
            for one in (twin, put(twin, {"x": (["q"], [1])})):
                self.refuse(one, errors.NotPlain, {}, find_danger)
                for call in (loads_after, after):
                    behind = ("q",) if call is loads_after else ()
                    self.refuse(one, errors.NotPlain, {}, call, "p", 3, *behind)
                    for station in NO_NAMES + ["x"]:
                        for tick in (0, 3):
                            self.refuse(one, errors.UnknownStation, {"value": station}, call, station, tick, *behind)
                    for tick in NO_TICKS + [0]:
                        self.refuse(one, errors.InvalidTick, {"value": tick}, call, "p", tick, *behind)
                        self.refuse(book, errors.InvalidTick, {"value": tick}, call, "p", tick, *behind)
                    for station in NO_NAMES + ["x", "p"]:
                        if call is loads_after:
                            self.refuse(one, errors.UnknownStation, {"value": station}, call, "p", 3, station)
                            self.refuse(book, errors.UnknownStation, {"value": station}, call, "p", 3, station)
                            self.refuse(book, errors.InvalidTick, {"value": 0}, call, "p", 0, station)


class TestLoadsAfter(Case):
    def test_by_words(self):
        chance = random.Random(254)
        for number in range(50):
            book = safe_book(chance, many=4) if number % 2 else drawn_unsafe(chance)
            book = put(book, drawn_reserves(chance, book))
            stations = book.network.names()
            for failed in stations:
                for station in [station for station in stations if station != failed]:
                    for tick in list(range(1, 12)) + [40, 1000]:
                        told = loads_after(book, failed, tick, station)
                        expected = plain_loads(book, failed, tick, station)
                        self.assertEqual([(name, load.visits()) for name, load in told], expected)
                        for name, load in told:
                            self.assertEqual(load.curve, book.curve_of(name))
                            self.assertIsInstance(load, Load)
                        told.clear()
                        self.assertEqual(len(loads_after(book, failed, tick, station)), len(expected))

    def test_where_streams_go(self):
        book = forced(ring(length=1), "x", ONE, ["p", "q"], [2, 3])
        book = put(forced(book, "y", ONE, ["r", "q"], [1, 1]), {"x": (["q", "r"], [4, 5]), "y": (["p"], [6])})

        def visits(failed, tick, station):
            return [(name, load.visits()) for name, load in loads_after(book, failed=failed, tick=tick, station=station)]

        self.assertEqual(visits("p", 9, "q"), [("x", [Visit(3, shift=3, end=6), Visit(4, begin=9)]),
                                               ("y", [Visit(1, shift=2)])])
        # Before any unit is released there, the old visit lets none enter, but it is there.
        self.assertEqual(visits("p", 2, "q")[0], ("x", [Visit(3, shift=3, end=0), Visit(4, begin=2)]))
        self.assertEqual(visits("p", 3, "r"), [("x", [Visit(5, shift=5, begin=3)]), ("y", [Visit(1)])])
        # The reserve passes q, too: x gets none, and y goes to p.
        self.assertEqual(visits("q", 7, "p"), [("x", [Visit(2, end=7)]), ("y", [Visit(6, begin=7)])])
        self.assertEqual(visits("q", 7, "r"), [("y", [Visit(1, end=7)])])
        self.assertEqual(visits("r", 7, "p"), [("x", [Visit(2)]), ("y", [Visit(6, begin=7)])])
        self.assertEqual(visits("r", 7, "q"), [("x", [Visit(3, shift=3)]), ("y", [Visit(1, shift=2, end=5)])])

    def test_the_same_stations_as_the_path(self):
        book = put(forced(ring(), "x", ONE, ["p", "q", "r"], [1, 1, 1]), {"x": (["r", "q"], [2, 2])})
        for tick in (1, 2, 3, 9):
            self.assertEqual([load.visits() for _, load in loads_after(book, "p", tick, "q")],
                             [[Visit(1, shift=1, end=max(0, tick - 1)), Visit(2, shift=2, begin=tick)]])
            self.assertEqual([load.visits() for _, load in loads_after(book, "q", tick, "r")],
                             [[Visit(1, shift=2, end=max(0, tick - 2))]])

    def test_nothing_changes_at_the_end(self):
        chance = random.Random(255)
        for _ in range(12):
            book = safe_book(chance, many=3)
            book = put(book, drawn_reserves(chance, book))
            last = last_tick(book)
            for failed in book.network.names():
                for station in book.network.names():
                    if station != failed:
                        wrong = []
                        for tick in (last - 1, last, last + 1, last + 7, last + 40):
                            loads = [load for _, load in loads_after(book, failed, tick, station)]
                            wrong.append((overfull(book.supply_of(station), loads) is None,
                                          crowded(book.network.find(station).room, loads) is None))
                        self.assertEqual(len(set(wrong[1:])), 1)


class TestWithReserves(Case):
    def test_copies(self):
        chance = random.Random(256)
        found = {True: 0, False: 0}
        for number in range(60):
            book = safe_book(chance, many=3) if number % 2 else drawn_tight(chance, 3)
            reserves = drawn_reserves(chance, book, 5)
            if not reserves:
                continue
            before = book.clone()
            asked = {name: (list(path), list(split)) for name, (path, split) in reserves.items()}
            expected = danger(put(book, reserves))
            found[expected is None] += 1
            if expected is not None:
                self.refuse(book, errors.Exposed, {"danger": expected}, with_reserves, asked)
                continue
            told = with_reserves(book, asked)
            self.assertTrue(book == before)
            self.assertEqual(asked, reserves)
            self.assertTrue(told == put(book, reserves))
            self.assertFalse(told == book)
            for path, split in asked.values():
                path.append("x")
                split.clear()
            asked.clear()
            for name in book.names():
                expected = tuple(map(tuple, reserves[name])) if name in reserves else None
                self.assertEqual(told.reserve_of(name), expected)
                self.assertEqual(told.lives_of(name), book.lives_of(name))
            self.assertFalse(told.is_plain())
            self.assertEqual(told.is_safe(), book.is_safe())
            turned = dict(reversed(list(reserves.items())))
            self.assertTrue(with_reserves(book=book, reserves=turned) == told)
        self.assertGreater(min(found.values()), 5)

    def test_errors(self):
        book = ring()
        for name, path in [("x", ["p"]), ("y", ["q"])]:
            book = forced(book, name, Curve([2], gain=2), path, [3])
        ended = book.clone()
        end_stream(ended, "x", 3)
        changed = book.clone()
        change_capacity(changed, "r", 3, 1)
        good = {"x": (["r"], [3])}
        for value in (good, None, {}, {"z": 1}):
            for twin in (ended, changed, put(book, good), forced(ring(), "x", ONE, ["p"], [3], begin=1)):
                self.refuse(twin, errors.NotPlain, {}, with_reserves, value)
        entry = (["r"], [3])
        for value in [*NO_INTEGERS, {}, [("x", entry)], {"x": None}, {"x": []}, {"x": ["r"]}, {"x": list(entry)},
                      {"x": (["r"],)}, {"x": (["r"], [3], 1)}, {"x": ()}, {"x": entry, "y": None}, {"x": entry, "z": 1},
                      {"z": "ab"}, {None: entry, 1: [1]}]:
            if value != {1: 1}:
                self.refuse(book, errors.InvalidBook, {}, with_reserves, value)
        wrong = [((value, [3]), errors.InvalidPath, 0) for value in [None, (), ("r",), [], "r", ["x"], {}]]
        wrong += [((["r", "p", "r"], [3]), errors.InvalidPath, 2)]
        wrong += [((["r"], value), errors.InvalidSplit, 0) for value in [None, (3,), [0], [13], [True], [], "3"]]
        wrong += [((["r", "p"], [1, None]), errors.InvalidSplit, 1), ((["r"], [1, 1]), errors.InvalidSplit, 1)]
        for entry, error, position in wrong:
            for more in ({}, {"y": (None, None)}, {"z": (None, None)}, {"y": (["q"], [12])}):
                self.refuse(book, error, {"position": position}, with_reserves, {**more, "x": entry})
        # The sequence of the streams decides, not that of the keys.
        self.refuse(book, errors.TooSlow, {"total": 4}, with_reserves, {"y": (None, 1), "x": (["r"], [4])})
        self.refuse(book, errors.TooSlow, {"total": 4}, with_reserves, {"z": (["r"], [1]), "x": (["r"], [4])})
        self.refuse(book, errors.InvalidPath, {"position": 0}, with_reserves, {"z": (["r"], [1]), "y": ([], [4])})
        for name in ("z", "p", None, 1, ("x",), b"x"):
            for more in ({}, {"x": (["r"], [3])}, {"x": (["q"], [1])}):
                self.refuse(book, errors.UnknownStream, {"value": name}, with_reserves, {**more, name: (None, None)})
        with self.assertRaises(errors.UnknownStream) as caught:
            with_reserves(book, {"z": (1, 2), "w": (1, 2)})
        self.assertIn(caught.exception.value, ("z", "w"))
        self.refuse(book, errors.Exposed, {"danger": ("p", 1, "time", "q", 1, 4)}, with_reserves, {"x": (["q"], [1])})
        self.assertTrue(with_reserves(book, good) == put(book, good))
        self.assertFalse(any(type(value) is Stranger for value in good))

    def test_other_operations(self):
        book = ring()
        admit(book, "x", ONE, ["p"], 9)
        book = with_reserves(book, {"x": (["q"], [2])})
        calls = [
            (admit, ("y", ONE, ["q"], 9), {}), (admit, ("y", ONE, ["q"], 9), {"split": [1]}),
            (forced, ("y", ONE, ["q"], [1]), {}), (end_stream, ("x", 3), {}),
            (earliest, ("y", ONE, ["q"], 9), {"begin": 0, "until": 3}), (reroute, ("x", ["q"], 9), {"at": 3, "until": 4}),
            (change_capacity, ("p", 3, 2), {}), (shed, ("p", 3, 2, {"x": 1}), {}),
        ]
        for call, args, more in calls:
            self.refuse(book, errors.HasReserves, {}, call, *args, **more)
        self.refuse(book, errors.NotPlain, {}, split_all, "y", ONE, ["q"], 9)
        self.refuse(book, errors.NotPlain, {}, with_reserves, {"x": (["q"], [2])})
        # What is asked only is told as before.
        self.assertEqual(least_total(book, ONE, ["p"]), 1)
        self.assertTrue(book.clone() == book)


class TestAfter(Case):
    def test_by_words(self):
        chance = random.Random(257)
        for number in range(50):
            book = safe_book(chance, many=4) if number % 2 else drawn_unsafe(chance)
            book = put(book, drawn_reserves(chance, book))
            before = book.clone()
            for failed in book.network.names():
                for tick in (1, 2, 9, 1000):
                    told = after(book, failed, tick)
                    self.assertTrue(book == before)
                    self.assertEqual(parts(told), plain_after(book, failed, tick))
                    self.assertEqual(told.names(), book.names())
                    self.assertTrue(told.network == book.network)
                    self.assertTrue(all(told.reserve_of(name) is None for name in book.names()))
                    self.assertTrue(after(book=book, failed=failed, tick=tick) == told)

    def test_protected_books_are_safe_elsewhere(self):
        chance = random.Random(258)
        seen = 0
        for _ in range(80):
            book = safe_book(chance, many=3)
            book = put(book, drawn_reserves(chance, book, 3))
            if danger(book, 30) is not None:
                continue
            for failed in [name for name in book.network.names() if book.network.find(name).may_fail]:
                told = after(book, failed, chance.randint(1, 12))
                for station in [name for name in book.network.names() if name != failed]:
                    loads = [load for _, load in told.loads_of(station)]
                    # The book still has all units of the old way, also those that are lost.
                    self.assertEqual(told.supply_of(station), book.supply_of(station))
                    self.assertIsNotNone(loads)
                seen += 1
        self.assertGreater(seen, 20)

    def test_parts(self):
        book = forced(forced(ring(), "x", ONE, ["p", "q"], [2, 3]), "y", ONE, ["r"], [1])
        book = forced(book, "z", ONE, ["q"], [1])
        book.put_stream("x", ONE, 7, book.lives_of("x"))
        book = put(book, {"x": (["q", "r"], [3, 4]), "z": (["q", "p"], [1, 1])})
        told = after(book, "p", 6)
        self.assertEqual(told.lives_of("x"), [(0, 6, ("p", "q"), (2, 3)), (6, None, ("q", "r"), (3, 4))])
        self.assertEqual([told.within_of("x"), told.lives_of("y")], [7, [(0, None, ("r",), (1,))]])
        self.assertEqual([told.supply_of("p").changes(), told.supply_of("q").changes()], [[(6, 0)], []])
        told = after(book, "q", 1)
        self.assertEqual(told.lives_of("x"), [(0, 1, ("p", "q"), (2, 3))])
        self.assertEqual(told.lives_of("z"), [(0, 1, ("q",), (1,))])
        self.assertEqual([told.within_of("x"), told.within_of("z")], [7, 1])
        empty = Book(Network([Station("p", 0, 9)]))
        self.assertEqual(after(empty, "p", 3).supply_of("p").changes(), [])
        self.assertTrue(after(empty, "p", 3).is_plain())
        # A reserve that takes longer than the within is not admitted, but what is greater counts.
        book = put(forced(ring(), "x", ONE, ["p"], [2]), {"x": (["q"], [9])})
        self.assertEqual(after(book, "p", 3).within_of("x"), 9)


if __name__ == "__main__":
    unittest.main()
