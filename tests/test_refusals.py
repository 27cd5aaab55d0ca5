"""Refusals: tables, troubles and runs, and that each run shows a cause when it is played."""

import random
import unittest
from itertools import product

import dueways.errors as errors
from dueways.admission import admit
from dueways.book import Book
from dueways.curves import Curve
from dueways.faults import Swap
from dueways.machine import Machine
from dueways.network import Network, Station, check_split
from dueways.records import keeps
from made import CURVES, curve, drawn_path
from plain import NO_INTEGERS
from plain_admission import Tried
from test_admission import drawn_books


def refused(book, new, path, within, begin, split=None):
    """Return the refusal of a stream z, or None if it is admitted."""
    try:
        admit(book.clone(), "z", new, path, within, begin=begin, split=split)
    except errors.Refused as told:
        return told.refusal
    return None


def refusals(many, seed, alone=False, most=3):
    """Return a list of many (book, curve, begin, refusal)."""
    chance = random.Random(seed)
    found = []
    while len(found) < many:
        for book in drawn_books(20, chance.randint(0, 10 ** 6)):
            new, begin = curve(chance.choice(CURVES)), chance.choice([0, 0, 2, 6])
            path = drawn_path(chance, book.network, most)
            split = [chance.randint(1, 5) for _ in path] if alone else None
            within = 100 if alone else chance.choice([3, 7, 11, 16])
            refusal = refused(book, new, path, within, begin, split)
            if refusal is not None:
                found.append((book, new, begin, refusal))
                if alone:
                    refusal.only = split
    return found[:many]


def splits_of(book, refusal, chance, many=25):
    """Return some of the splits of a refusal's path with a total of at most its within."""
    path = refusal.path()
    found = [list(split) for split in product(range(1, 13), repeat=len(path))
             if check_split(book.network, path, list(split)) <= refusal.within]
    return chance.sample(found, min(many, len(found)))


def forced(book, new, refusal, split):
    """Return a copy of a book with the refused stream."""
    twin = book.clone()
    lives = [(refusal.begin, None, tuple(refusal.path()), tuple(split))]
    twin.put_stream(refusal.name, new, refusal.within, lives)
    return twin


def is_in_lives(book, name, tick):
    return any(begin <= tick and (end is None or tick < end) for begin, end, _, _ in book.lives_of(name))


def counted(book, run, trouble):
    """Return how many units of a run are urgent in a window, or have a place in a tick, at the trouble's station."""
    kind, station, start, end = trouble
    units = 0
    for name, (first, record) in run.items():
        for begin, behind, path, split in book.lives_of(name):
            if station not in path:
                continue
            index = path.index(station)
            links = [book.network.link(*ends) for ends in zip(path, path[1:])]
            shift = sum(split[:index]) + sum(links[:index])
            for tick, many in enumerate(record, start=first):
                if begin <= tick and (behind is None or tick < behind):
                    released, due = tick + shift, tick + shift + split[index]
                    if kind == "time" and start <= released and due <= end:
                        units += many
                    if kind == "room" and released <= start < due:
                        units += many
    return units


def played(book, run, faults=()):
    """Return a machine of a book after a run."""
    machine = Machine(book, faults=faults)
    behind = max(first + len(record) for first, record in run.values())
    for tick in range(behind + 130):
        machine.step(handed={name: record[tick - first] for name, (first, record) in run.items()
                             if first <= tick < first + len(record)})
    return machine


class TestTables(unittest.TestCase):
    def test_entry_by_entry(self):
        sizes = []
        for book, new, begin, refusal in refusals(60, 71):
            expected = Tried(book, new, begin).table(refusal.path(), refusal.within)
            self.assertEqual(refusal.table(), expected)
            self.assertEqual(refusal.table(), expected)
            sizes.append(len(expected))
        self.assertGreater(max(sizes), 7)

    def test_many_entries(self):
        stations = [Station("p", 1, 12), Station("q", 1, 9), Station("r", 0, 9)]
        book = Book(Network(stations, [("p", "q", 1), ("q", "r", 0)]))
        admit(book, "x", Curve([1], gain=0), ["q"], 9)
        new = Curve([1])
        for within, last in [(100, 25), (15, 14), (16, 15), (2, None)]:
            table = refused(book, new, ["p", "q", "r"], within, 0).table()
            self.assertEqual(table, Tried(book, new, 0).table(["p", "q", "r"], within))
            self.assertEqual(max((shift for index, shift in table if index == 2), default=None), last)
            self.assertEqual(table[0, 0], (1, 12))
        self.assertGreater(len(refused(book, new, ["p", "q", "r"], 100, 0).table()), 30)

    def test_properties(self):
        book = Book(Network([Station("p", 1, 4), Station("q", 1, 4)], [("p", "q", 2)]))
        path = ["p", "q"]
        refusal = refused(book, Curve([2]), path, 5, 3)
        path.clear()
        self.assertEqual((refusal.name, refusal.within, refusal.begin), ("z", 5, 3))
        self.assertEqual(refusal.path(), ["p", "q"])
        refusal.path().clear()
        refusal.table().clear()
        self.assertEqual(refusal.path(), ["p", "q"])
        self.assertEqual(refusal.table(), {(0, 0): (2, 12), (1, 4): (2, 12)})
        with self.assertRaises(errors.Refused) as caught:
            admit(book, name="w", curve=Curve([2]), path=["q"], within=1)
        self.assertEqual((caught.exception.refusal.name, caught.exception.refusal.begin), ("w", 0))

    def test_later_changes_have_no_effect(self):
        book = Book(Network([Station("p", 1, 4)]))
        with self.assertRaises(errors.Refused) as caught:
            admit(book, "z", Curve([2]), ["p"], 1)
        refusal = caught.exception.refusal
        admit(book, "y", Curve([2]), ["p"], 9)
        self.assertEqual(refusal.table(), {(0, 0): (2, 12)})
        self.assertEqual(refusal.trouble([1]), ("time", "p", 0, 1))
        self.assertEqual(sorted(refusal.run([1])), ["z"])


class TestTroubles(unittest.TestCase):
    def test_by_trying_all_times(self):
        chance = random.Random(72)
        kinds = []
        for book, new, begin, refusal in refusals(50, 73) + refusals(30, 74, alone=True):
            tried, path = Tried(book, new, begin), refusal.path()
            only = getattr(refusal, "only", None)
            for split in [only] if only else splits_of(book, refusal, chance):
                station, shift, time = next(
                    (station, shift, time) for station, shift, time in zip(path, tried.shifts(path, split), split)
                    if not tried.is_possible(station, shift, time))
                window = tried.window(station, shift, time)
                if window is not None:
                    expected = ("time", station, *window)
                else:
                    tick = tried.tick(station, shift, time)
                    expected = ("room", station, tick, tick + 1)
                self.assertEqual(refusal.trouble(split), expected)
                self.assertEqual(refusal.trouble(split=split), expected)
                kinds.append(expected[0])
        self.assertGreater(min(kinds.count("time"), kinds.count("room")), 20)


class TestRuns(unittest.TestCase):
    def test_runs(self):
        chance = random.Random(75)
        seen = 0
        for book, new, begin, refusal in refusals(60, 76) + refusals(30, 77, alone=True):
            only = getattr(refusal, "only", None)
            for split in [only] if only else splits_of(book, refusal, chance, 8):
                self.check_run(book, new, begin, refusal, split)
                seen += 1
        self.assertGreater(seen, 100)

    def check_run(self, book, new, begin, refusal, split):
        run, trouble = refusal.run(split=split), refusal.trouble(split)
        twin = forced(book, new, refusal, split)
        self.assertEqual(refusal.run(split), run)
        self.assertIn("z", run)
        for name, (first, record) in run.items():
            self.assertTrue(keeps(record, twin.curve_of(name)))
            for tick, units in enumerate(record, start=first):
                self.assertTrue(units == 0 or is_in_lives(twin, name, tick))
        self.assertGreaterEqual(run["z"][0], begin)
        kind, station, start, end = trouble
        most = twin.network.find(station).room if kind == "room" else twin.supply_of(station).between(start, end)
        self.assertGreater(counted(twin, run, trouble), most)

    def test_played(self):
        chance = random.Random(78)
        seen = 0
        for book, new, _, refusal in refusals(30, 79) + refusals(10, 80, alone=True):
            only = getattr(refusal, "only", None)
            for split in [only] if only else splits_of(book, refusal, chance, 3):
                twin, run = forced(book, new, refusal, split), refusal.run(split)
                swaps = [Swap(station, tick) for station in book.network.names() for tick in range(60)]
                some = chance.sample(swaps, len(swaps) // 2)
                for faults in ((), swaps, some):
                    machine = played(twin, run, faults)
                    self.assertTrue(machine.late() or machine.full())
                    seen += 1
        self.assertGreater(seen, 100)

    def test_a_refused_stream_that_is_not_needed(self):
        book = Book(Network([Station("p", 1, 9)]))
        book.put_stream("x", Curve([2]), 9, [(0, 1, ("p",), (1,))])
        refusal = refused(book, Curve([1]), ["p"], 9, 5)
        self.assertEqual(refusal.table(), {(0, 0): (None, 12)})
        self.assertEqual(refusal.trouble([4]), ("time", "p", 0, 1))
        self.assertEqual(refusal.run([4]), {"x": (0, [2]), "z": (5, [])})

    def test_new_dicts_and_lists(self):
        book = Book(Network([Station("p", 1, 4)]))
        refusal = refused(book, Curve([3]), ["p"], 2, 1)
        run = refusal.run([2])
        run["z"][1].append(7)
        run.clear()
        self.assertEqual(sum(refusal.run([2])["z"][1]), 3)

    def test_room_alone(self):
        book = Book(Network([Station("p", 9, 2)]))
        admit(book, "x", Curve([1], gain=1), ["p"], 9)
        refusal = refused(book, Curve([1], gain=1), ["p"], 9, 4, [5])
        self.assertEqual(refusal.trouble([5]), ("room", "p", 5, 6))
        run = refusal.run([5])
        self.assertEqual(sorted(run), ["x", "z"])
        self.assertEqual(counted(forced(book, Curve([1], gain=1), refusal, [5]), run, ("room", "p", 5, 6)), 3)


    def test_late_ticks(self):
        book = Book(Network([Station("p", 9, 9), Station("q", 9, 2)], [("p", "q", 10)]))
        admit(book, "x", Curve([1], gain=1), ["q"], 9, begin=1000)
        new = Curve([1], gain=1)
        refusal = refused(book, new, ["p", "q"], 99, 1000, [5, 5])
        self.assertEqual(refusal.trouble([5, 5]), ("room", "q", 1016, 1017))
        run = refusal.run([5, 5])
        self.assertEqual(counted(forced(book, new, refusal, [5, 5]), run, ("room", "q", 1016, 1017)), 3)
        refusal = refused(book, Curve([10]), ["p", "q"], 99, 1000, [1, 1])
        self.assertEqual(refusal.trouble([1, 1]), ("time", "p", 1000, 1001))
        self.assertEqual(refusal.run([1, 1]), {"z": (1000, [10])})


class TestErrors(unittest.TestCase):
    def setUp(self):
        self.book = Book(Network([Station("p", 1, 3), Station("q", 1, 3)], [("p", "q", 2)]))
        self.whole = refused(self.book, Curve([3]), ["p", "q"], 7, 0)
        self.alone = refused(self.book, Curve([3]), ["p", "q"], 7, 0, [2, 2])

    def test_wrong_splits(self):
        wrong = [([1], 1), ([], 0), ([1, 1, 1], 2), ([0, 1], 0), ([1, 13], 1), ([1, True], 1), ((2, 2), 0)]
        wrong += [(value, 0) for value in NO_INTEGERS if value != [1]]
        for value, position in wrong:
            for refusal in (self.whole, self.alone):
                for function in (refusal.trouble, refusal.run):
                    with self.subTest(value), self.assertRaises(errors.InvalidSplit) as caught:
                        function(value)
                    self.assertEqual(caught.exception.position, position)

    def test_too_slow(self):
        for refusal in (self.whole, self.alone):
            for function in (refusal.trouble, refusal.run):
                with self.assertRaises(errors.TooSlow) as caught:
                    function([3, 3])
                self.assertEqual(caught.exception.total, 8)
                self.assertEqual(self.whole.trouble([2, 3])[0], "time")

    def test_about_one_split(self):
        self.assertEqual(self.alone.table(), {})
        self.assertEqual(self.alone.trouble([2, 2]), ("time", "p", 0, 2))
        for function in (self.alone.trouble, self.alone.run):
            for other in ([2, 1], [1, 2], [3, 2]):
                with self.assertRaises(errors.InvalidSplit) as caught:
                    function(other)
                self.assertEqual(caught.exception.position, 0)


if __name__ == "__main__":
    unittest.main()
