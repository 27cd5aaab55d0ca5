"""Admission: low and high, the split that a stream gets, given splits, least totals, fastest paths and the errors."""

import random
import unittest

import dueways.errors as errors
from dueways.admission import admit, fastest, least_total
from dueways.book import Book
from dueways.curves import Curve
from dueways.loads import Load, Visit
from dueways.network import Network, Station, check_split
from dueways.records import tightest
from dueways.splits import Possible
from dueways.windows import crowded, overfull
from made import CURVES, any_book, curve, drawn_path, safe_book
from plain import NO_COUNTS, NO_INTEGERS
from plain_admission import Tried, paths

ONE = Curve([1], gain=1)
BAD = Curve([1, 3])
NO_NAMES = [value for value in NO_INTEGERS if value != "a"] + ["A", "a1", "abcdefghi", "a b", 0]


def drawn_books(many, seed):
    """Return a list of safe books, plain ones and others with lives that end and capacities that change."""
    chance = random.Random(seed)
    found = []
    while len(found) < many:
        found.append(safe_book(chance, latest=chance.choice([0, 5])))
        for _ in range(40):
            book = any_book(chance, many=2, stations=3, latest=4, most=2)
            if book.is_safe() and not book.is_plain():
                found.append(book)
                break
    return found[:many]


def pair():
    """Return a book without streams of two stations."""
    return Book(Network([Station("p", 1, 4), Station("q", 1, 4)], [("p", "q", 2)]))


class TestAdmission(unittest.TestCase):
    def check(self, book, name, new, path, within, begin):
        """Admit, or see a refusal, as trying all splits tells; return whether it was admitted."""
        tried = Tried(book.clone(), new, begin)
        best = tried.best(path)
        before = book.clone()
        if best is None or tried.total(path, best) > within:
            with self.assertRaises(errors.Refused) as caught:
                admit(book, name, new, path, within, begin=begin)
            self.assertEqual(caught.exception.refusal.path(), path)
            self.assertTrue(book == before)
            return False
        told = admit(book, name, new, path, within, begin=begin)
        self.assertEqual(told, list(best))
        self.assertIsInstance(told, list)
        self.assertEqual(book.names(), before.names() + [name])
        self.assertEqual(book.lives_of(name), [(begin, None, tuple(path), tuple(best))])
        self.assertEqual([book.within_of(name), book.curve_of(name)], [within, new])
        self.assertTrue(book.is_safe())
        return True

    def test_by_trying_all_splits(self):
        chance = random.Random(52)
        found = {True: 0, False: 0}
        for book in drawn_books(40, 51):
            for name in ("y", "z"):
                path = drawn_path(chance, book.network)
                told = self.check(book, name, curve(chance.choice(CURVES)), path, chance.choice([5, 12, 30]),
                                  chance.choice([0, 0, 1, 3, 7]))
                found[told] += 1
        self.assertGreater(min(found.values()), 15)

    def test_low_and_high(self):
        # A path of one station: the least possible time is low, given times tell high.
        chance = random.Random(53)
        for book in drawn_books(30, 54):
            station, new, begin = chance.choice(book.network.names()), curve(chance.choice(CURVES)), chance.randint(0, 6)
            low, high = Tried(book, new, begin).bounds(station, 0)
            for time in range(1, 13):
                twin = book.clone()
                if low is not None and high is not None and low <= time <= high:
                    self.assertEqual(admit(twin, "z", new, [station], 99, begin=begin, split=[time]), [time])
                    self.assertEqual(twin.lives_of("z"), [(begin, None, (station,), (time,))])
                    self.assertTrue(twin.is_safe())
                else:
                    with self.assertRaises(errors.Refused):
                        admit(twin, "z", new, [station], 99, begin=begin, split=[time])
                    self.assertTrue(twin == book)

    def test_low_and_high_of_a_stream_that_is_in_the_book(self):
        # A further life of a stream: its visits belong to one load.
        chance = random.Random(62)
        seen = 0
        for book in drawn_books(40, 63):
            for name in book.names():
                lives = book.lives_of(name)
                ended = book.clone()
                end = lives[-1][0] + chance.randint(0, 4) if lives[-1][1] is None else lives[-1][1]
                ended.put_stream(name, book.curve_of(name), 9, lives[:-1] + [(lives[-1][0], end, *lives[-1][2:])])
                station, shift = chance.choice(book.network.names()), chance.randint(0, 3)
                own = dict(ended.loads_of(station))
                visits = own[name].visits() if name in own else []
                others = [own[other] for other in own if other != name]
                low, high = [], []
                for time in range(1, 13):
                    load = Load(book.curve_of(name), visits + [Visit(time, shift=shift, begin=end)])
                    if overfull(ended.supply_of(station), others + [load]) is None:
                        low.append(time)
                    if crowded(ended.network.find(station).room, others + [load]) is None:
                        high.append(time)
                possible = Possible(ended, name, book.curve_of(name), end)
                told = possible.low_and_high(station, shift)
                self.assertEqual(told, (min(low, default=None), max(high, default=None)))
                seen += len(visits) > 0
        self.assertGreater(seen, 15)

    def test_given_splits(self):
        chance = random.Random(55)
        for book in drawn_books(20, 56):
            new, path, begin = curve(chance.choice(CURVES)), drawn_path(chance, book.network, 2), chance.randint(0, 3)
            tried = Tried(book, new, begin)
            for _ in range(12):
                split = [chance.randint(1, 6) for _ in path]
                possible = tuple(split) in tried.splits(path)
                twin = book.clone()
                if possible:
                    self.assertEqual(admit(twin, "z", new, path, 100, begin=begin, split=split), split)
                    self.assertEqual(twin.lives_of("z")[0][3], tuple(split))
                else:
                    with self.assertRaises(errors.Refused) as caught:
                        admit(twin, "z", new, path, 100, begin=begin, split=split)
                    self.assertEqual(caught.exception.refusal.table(), {})
                    self.assertTrue(twin == book)

    def test_ties(self):
        # As q serves nothing before tick 6, a time at p makes the one at q less by as much.
        book = Book(Network([Station("p", 1, 3), Station("q", 0, 9)], [("p", "q", 0)]))
        book.put_changes("q", [(6, 1)])
        new = Curve([1])
        splits = [split for split in Tried(book, new, 0).splits(["p", "q"]) if sum(split) == 7]
        self.assertEqual(splits, [(time, 7 - time) for time in range(1, 7)])
        self.assertEqual(least_total(book, new, ["p", "q"]), 7)
        self.assertEqual(admit(book, "x", new, ["p", "q"], 7), [1, 6])

    def test_the_within(self):
        self.assertEqual(admit(pair(), "a", Curve([1]), ["p", "q"], 4), [1, 1])
        with self.assertRaises(errors.Refused):
            admit(pair(), "a", Curve([1]), ["p", "q"], 3)
        self.assertEqual(admit(pair(), "a", Curve([2]), ["p", "q"], 6), [2, 2])
        with self.assertRaises(errors.Refused):
            admit(pair(), "a", Curve([2]), ["p", "q"], 5)
        self.assertEqual(admit(pair(), "a", ONE, ["p", "q"], 7, split=[2, 3]), [2, 3])
        with self.assertRaises(errors.TooSlow) as caught:
            admit(pair(), "a", ONE, ["p", "q"], 6, split=[2, 3])
        self.assertEqual(caught.exception.total, 7)

    def test_limits(self):
        book = pair()
        self.assertEqual(admit(book, "abcdefgh", ONE, ["p"], 100, begin=1000), [1])
        self.assertEqual(book.lives_of("abcdefgh"), [(1000, None, ("p",), (1,))])
        with self.assertRaises(errors.Refused) as caught:
            admit(pair(), "a", ONE, ["p"], 0)
        self.assertEqual(caught.exception.refusal.table(), {(0, 0): (1, 4)})
        self.assertEqual(admit(pair(), "a", Curve([0]), ["p", "q"], 4), [1, 1])
        closed = Book(Network([Station("p", 0, 4)]))
        with self.assertRaises(errors.Refused):
            admit(closed, "a", Curve([1]), ["p"], 100)
        self.assertEqual(admit(closed, "a", Curve([0]), ["p"], 100), [1])

    def test_ten_streams(self):
        book = pair()
        for name in "abcdefghij":
            self.assertEqual(admit(book, name, Curve([0]), ["p"], 9), [1])
        with self.assertRaises(errors.TooMany) as caught:
            admit(book, "k", Curve([0]), ["p"], 9)
        self.assertEqual(caught.exception.limit, 10)
        self.assertEqual(len(book), 10)

    def test_arguments(self):
        book, path, split = pair(), ["p", "q"], [1, 1]
        told = admit(book=book, name="a", curve=Curve([1]), path=path, within=9, begin=2, split=split)
        path.clear()
        split[0] = 5
        told.append(7)
        self.assertEqual(book.lives_of("a"), [(2, None, ("p", "q"), (1, 1))])
        with self.assertRaises(TypeError):
            admit(pair(), "a", ONE, ["p"], 9, 0)


class TestErrors(unittest.TestCase):
    """Each wrong argument, with all arguments behind it wrong as well."""

    def raised(self, kind, book, *values, **named):
        before = book.clone()
        with self.assertRaises(kind) as caught:
            admit(book, *values, **named)
        self.assertIs(caught.exception.__class__, kind)
        self.assertTrue(book == before)
        return caught.exception

    def book(self, reserve=False, full=False):
        book = pair()
        for name in ("bcdefghijk" if full else "b"):
            admit(book, name, Curve([0]), ["p"], 9)
        if reserve:
            book.put_reserve("b", (("q",), (1,)))
        return book

    def test_in_sequence(self):
        rest = {"begin": -1, "split": [99]}
        book = self.book(reserve=True, full=True)
        for value in NO_NAMES:
            with self.subTest(value):
                error = self.raised(errors.InvalidName, book, value, BAD, None, None, **rest)
                self.assertEqual(repr(error.value), repr(value))
        self.assertEqual(self.raised(errors.NameTaken, book, "b", BAD, None, None, **rest).taken, "b")
        error = self.raised(errors.NotGood, book, "a", BAD, None, None, **rest)
        self.assertEqual((error.first, error.second), (1, 1))
        greater = Curve([2000], gain=1) + ONE
        self.assertEqual(self.raised(errors.TooLong, book, "a", greater, None, None, **rest).limit, 24)
        steeper = Curve([2000], gain=2000) + ONE
        self.assertEqual(self.raised(errors.TooLong, book, "a", steeper, None, None, **rest).limit, 24)
        for path, position in [(None, 0), (("p",), 0), (["p", "x"], 1), (["q", "p"], 1)]:
            self.assertEqual(self.raised(errors.InvalidPath, book, "a", ONE, path, None, **rest).position, position)
        for value in NO_COUNTS + [101]:
            error = self.raised(errors.InvalidTime, book, "a", ONE, ["p"], value, **rest)
            self.assertEqual(repr(error.value), repr(value))
        for value in NO_COUNTS + [1001]:
            error = self.raised(errors.InvalidTick, book, "a", ONE, ["p"], 9, begin=value, split=[99])
            self.assertEqual(repr(error.value), repr(value))
        self.raised(errors.HasReserves, book, "a", ONE, ["p"], 9, split=[99])
        full = self.book(full=True)
        self.assertEqual(self.raised(errors.TooMany, full, "a", ONE, ["p"], 9, split=[99]).limit, 10)

    def test_of_splits(self):
        for value in [value for value in NO_INTEGERS if value is not None] + [5, (1, 1)]:
            if value != [1]:
                error = self.raised(errors.InvalidSplit, self.book(), "a", ONE, ["p", "q"], 0, split=value)
                self.assertEqual(error.position, 0)
        for value, position in [([1], 1), ([1, 13], 1), ([0, 1], 0), ([1, 1, 1], 2), ([True, 1], 0), ([1, None], 1)]:
            error = self.raised(errors.InvalidSplit, self.book(), "a", ONE, ["p", "q"], 0, split=value)
            self.assertEqual(error.position, position)
        self.assertEqual(self.raised(errors.TooSlow, self.book(), "a", ONE, ["p", "q"], 3, split=[1, 1]).total, 4)
        self.raised(errors.Refused, self.book(), "a", Curve([9]), ["p", "q"], 4, split=[1, 1])

    def test_long_curves(self):
        # Written by its form: a sum that needs few values is short enough.
        twice = Curve([2] * 12, period=12, gain=2) + Curve([1] * 12, period=12, gain=1)
        self.assertEqual(admit(Book(Network([Station("p", 3, 99)])), "a", twice, ["p"], 9), [1])
        many = tightest([1, 1] * 13)
        self.assertEqual(len(many.first_values()), 26)
        error = self.raised(errors.TooLong, pair(), "a", many, None, None)
        self.assertEqual(error.limit, 24)
        self.assertIsNotNone(least_total(Book(Network([Station("p", 9, 99)])), many, ["p"]))


class TestLeastTotals(unittest.TestCase):
    def test_by_trying_all_splits(self):
        chance = random.Random(57)
        found = {True: 0, False: 0}
        for book in drawn_books(40, 58):
            path, new, begin = drawn_path(chance, book.network), curve(chance.choice(CURVES)), chance.choice([0, 2, 5])
            before = book.clone()
            tried = Tried(book, new, begin)
            best = tried.best(path)
            expected = None if best is None else tried.total(path, best)
            self.assertEqual(least_total(book, new, path, begin=begin), expected)
            self.assertEqual(least_total(book=book, curve=new, path=path, begin=begin), expected)
            self.assertTrue(book == before)
            found[best is None] += 1
        self.assertGreater(min(found.values()), 4)

    def test_errors_in_sequence(self):
        book = pair()
        with self.assertRaises(errors.NotGood):
            least_total(book, BAD, None, begin=None)
        with self.assertRaises(errors.InvalidPath) as caught:
            least_total(book, ONE, ["p", "p"], begin=None)
        self.assertEqual(caught.exception.position, 1)
        for value in NO_COUNTS + [1001]:
            with self.assertRaises(errors.InvalidTick) as caught:
                least_total(book, ONE, ["p"], begin=value)
            self.assertEqual(repr(caught.exception.value), repr(value))
        self.assertEqual(least_total(book, ONE, ["p", "q"], begin=1000), 4)


    def test_the_begin_that_may_be_left_out(self):
        book = Book(Network([Station("p", 1, 4)]))
        book.put_changes("p", [(1, 3)])
        self.assertEqual([least_total(book, Curve([2]), ["p"]), least_total(book, Curve([2]), ["p"], begin=1)], [2, 1])
        self.assertEqual([fastest(book, Curve([2]), "p", "p"), fastest(book, Curve([2]), "p", "p", begin=1)],
                         [(2, ["p"]), (1, ["p"])])


class TestFastest(unittest.TestCase):
    def test_by_trying_all_paths(self):
        chance = random.Random(59)
        found = {True: 0, False: 0}
        for book in drawn_books(40, 60):
            source, target = chance.choice(book.network.names()), chance.choice(book.network.names())
            new, begin = curve(chance.choice(CURVES)), chance.choice([0, 0, 3])
            totals = []
            for path in paths(book.network, source, target):
                best = Tried(book, new, begin).best(path)
                if best is not None:
                    totals.append((check_split(book.network, path, list(best)), len(path), path))
            expected = (min(totals)[0], min(totals)[2]) if totals else None
            before = book.clone()
            self.assertEqual(fastest(book, new, source, target, begin=begin), expected)
            self.assertTrue(book == before)
            found[expected is None] += 1
        self.assertGreater(min(found.values()), 2)

    def test_ties(self):
        stations = [Station(name, 1, 9) for name in "abcde"]
        links = [("a", "c", 0), ("c", "e", 1), ("a", "b", 1), ("b", "e", 0), ("a", "e", 2)]
        self.assertEqual(fastest(Book(Network(stations, links)), ONE, "a", "e"), (4, ["a", "e"]))
        self.assertEqual(fastest(Book(Network(stations, links[:4])), ONE, "a", "e"), (4, ["a", "b", "e"]))
        self.assertEqual(fastest(Book(Network(stations, links[:2])), ONE, "a", "e"), (4, ["a", "c", "e"]))

    def test_long_paths(self):
        names = "abcdef"
        stations = [Station(name, 1, 9) for name in names]
        book = Book(Network(stations, [(one, two, 0) for one, two in zip(names, names[1:])]))
        self.assertEqual(fastest(book, ONE, "a", "e"), (5, list("abcde")))
        self.assertIsNone(fastest(book, ONE, "a", "f"))
        self.assertIsNone(fastest(book, ONE, "b", "a"))

    def test_a_station_to_itself(self):
        told = fastest(book=pair(), curve=Curve([3]), source="q", target="q", begin=4)
        self.assertEqual(told, (3, ["q"]))
        self.assertIsInstance(told, tuple)
        self.assertIsNone(fastest(pair(), Curve([5]), "q", "q"))

    def test_errors_in_sequence(self):
        with self.assertRaises(errors.NotGood):
            fastest(pair(), BAD, None, None, begin=None)
        for value in NO_NAMES + ["x"]:
            for stations in [(value, None), ("p", value)]:
                with self.assertRaises(errors.UnknownStation) as caught:
                    fastest(pair(), ONE, *stations, begin=None)
                self.assertEqual(repr(caught.exception.value), repr(value))
        for value in NO_COUNTS + [1001]:
            with self.assertRaises(errors.InvalidTick) as caught:
                fastest(pair(), ONE, "p", "q", begin=value)
            self.assertEqual(repr(caught.exception.value), repr(value))


class TestLoadsOfRefusedTimes(unittest.TestCase):
    def test_a_longer_time_is_never_more_overfull(self):
        for book in drawn_books(10, 61):
            for station in book.network.names():
                loads = [load for _, load in book.loads_of(station)]
                told = [overfull(book.supply_of(station), loads + [Load(ONE, [Visit(time)])]) for time in range(1, 13)]
                windows = [window is None for window in told]
                self.assertEqual(windows, sorted(windows))
                room = book.network.find(station).room
                ticks = [crowded(room, loads + [Load(ONE, [Visit(time)])]) is None for time in range(1, 13)]
                self.assertEqual(ticks, sorted(ticks, reverse=True))


if __name__ == "__main__":
    unittest.main()
