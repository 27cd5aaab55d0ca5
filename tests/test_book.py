"""Books: what they tell, whether they are safe and plain, copies and equality."""

import random
import unittest

import plain_loads
from dueways.admission import admit
from dueways.book import Book
from dueways.curves import Curve
from dueways.errors import UnknownStation, UnknownStream
from dueways.loads import Visit
from dueways.network import Network, Station
from dueways.supply import Supply
from made import any_book, safe_book
from plain import NO_INTEGERS, Stranger, row

ONE = Curve([1], gain=1)
STRANGE = NO_INTEGERS + [0, "w", "A", ["x"], ("x",)]


def small():
    """Return a book of two stations."""
    return Book(Network([Station("p", 3, 9), Station("q", 2, 9)], [("p", "q", 1), ("q", "p", 0)]))


def filled():
    """Return a book with a stream that has two lives and one that has one, and a changed capacity."""
    book = small()
    book.put_stream("x", ONE, 30, [(0, 4, ("p", "q"), (2, 3)), (4, None, ("q",), (5,))])
    book.put_stream("y", Curve([2, 2], period=2, gain=1), 20, [(1, None, ("q", "p"), (1, 4))])
    book.put_changes("q", [(3, 2), (5, 4)])
    return book


def plain_visits(book, station):
    """Return for each stream that passes a station the (name, numbers, visits), from its lives alone."""
    found = []
    for name in book.names():
        curve = book.curve_of(name)
        numbers = row((curve.first_values(), curve.period, curve.gain), plain_loads.LATEST + 5)
        visits = []
        for begin, end, path, split in book.lives_of(name):
            shift = 0
            for index, passed in enumerate(path):
                if passed == station:
                    visits.append((split[index], shift, begin, end))
                if index + 1 < len(path):
                    shift += split[index] + book.network.link(passed, path[index + 1])
        if visits:
            found.append((name, numbers, visits))
    return found


class TestBooks(unittest.TestCase):
    def test_as_made(self):
        book = Book(network=small().network)
        self.assertEqual(book.network, small().network)
        self.assertEqual([book.names(), len(book)], [[], 0])
        self.assertEqual([book.is_safe(), book.is_plain()], [True, True])
        self.assertEqual([book.loads_of("p"), book.supply_of("q")], [[], Supply(2)])

    def test_streams(self):
        book = filled()
        self.assertEqual(book.names(), ["x", "y"])
        self.assertEqual([book.curve_of("x"), book.curve_of(name="y")], [ONE, Curve([2, 2], period=2, gain=1)])
        self.assertEqual([book.within_of("x"), book.within_of(name="y")], [30, 20])
        self.assertEqual(book.lives_of("x"), [(0, 4, ("p", "q"), (2, 3)), (4, None, ("q",), (5,))])
        self.assertEqual(book.lives_of(name="y"), [(1, None, ("q", "p"), (1, 4))])
        self.assertEqual([book.reserve_of("x"), book.reserve_of(name="y")], [None, None])

    def test_after_admissions(self):
        book = small()
        admit(book, "y", ONE, ["p", "q"], 50, begin=3, split=[1, 1])
        admit(book, "a", Curve([1]), ["q"], 9)
        self.assertEqual(book.names(), ["y", "a"])
        self.assertEqual(book.lives_of("y"), [(3, None, ("p", "q"), (1, 1))])
        self.assertEqual([book.within_of("y"), book.within_of("a")], [50, 9])
        self.assertEqual([book.curve_of("y"), book.curve_of("a")], [ONE, Curve([1])])

    def test_loads(self):
        book = filled()
        told = [(name, load.curve, load.visits()) for name, load in book.loads_of("q")]
        self.assertEqual(told, [("x", ONE, [Visit(3, shift=3, end=4), Visit(5, begin=4)]),
                                ("y", Curve([2, 2], period=2, gain=1), [Visit(1, begin=1)])])
        told = [(name, load.visits()) for name, load in book.loads_of(station="p")]
        self.assertEqual(told, [("x", [Visit(2, end=4)]), ("y", [Visit(4, shift=1, begin=1)])])

    def test_loads_of_any_books(self):
        chance = random.Random(41)
        for _ in range(60):
            book = any_book(chance)
            for station in book.network.names():
                told = [(name, [(visit.time, visit.shift, visit.begin, visit.end) for visit in load.visits()])
                        for name, load in book.loads_of(station)]
                self.assertEqual(told, [(name, visits) for name, _, visits in plain_visits(book, station)])

    def test_supplies(self):
        book = filled()
        self.assertEqual([book.supply_of("p"), book.supply_of(station="q")], [Supply(3), Supply(2, [(5, 4)])])

    def test_unknown_streams_and_stations(self):
        book = filled()
        for value in STRANGE + ["p"]:
            for function in (book.curve_of, book.within_of, book.lives_of, book.reserve_of):
                with self.subTest(value), self.assertRaises(UnknownStream) as caught:
                    function(value)
                self.assertEqual(repr(caught.exception.value), repr(value))
        for value in STRANGE + ["y"]:
            for function in (book.loads_of, book.supply_of):
                with self.subTest(value), self.assertRaises(UnknownStation) as caught:
                    function(value)
                self.assertEqual(repr(caught.exception.value), repr(value))

    def test_len_and_in(self):
        book = filled()
        self.assertEqual(len(book), 2)
        self.assertIs("x" in book, True)
        self.assertIs("z" in book, False)
        for value in STRANGE:
            self.assertIs(value in book, False)


class TestSafety(unittest.TestCase):
    def test_by_all_windows_and_ticks(self):
        chance = random.Random(42)
        found = {True: 0, False: 0}
        for _ in range(70):
            book = any_book(chance, many=chance.randint(1, 2), stations=2, latest=3, most=2)
            expected = True
            for station in book.network.names():
                loads = [(numbers, visits) for _, numbers, visits in plain_visits(book, station)]
                fact = book.network.find(station)
                supply = (fact.capacity, book.supply_of(station).changes())
                if plain_loads.first_crowded(fact.room, loads, 40) is not None:
                    expected = False
                if expected and plain_loads.first_overfull(supply, loads, 28, 28) is not None:
                    expected = False
            self.assertIs(book.is_safe(), expected)
            found[expected] += 1
        self.assertGreater(min(found.values()), 8)

    def test_one_reason_alone(self):
        book = Book(Network([Station("p", 1, 9), Station("q", 9, 2)]))
        book.put_stream("x", Curve([2]), 9, [(0, None, ("p",), (2,))])
        self.assertTrue(book.is_safe())
        book.put_stream("x", Curve([2]), 9, [(0, None, ("p",), (1,))])
        self.assertFalse(book.is_safe())
        book.put_stream("x", Curve([2]), 9, [(0, None, ("q",), (1,))])
        self.assertTrue(book.is_safe())
        book.put_stream("y", Curve([1]), 9, [(5, None, ("q",), (4,))])
        self.assertFalse(book.is_safe())
        book.put_stream("y", Curve([1]), 9, [(5, 5, ("q",), (4,))])
        self.assertTrue(book.is_safe())
        book.put_changes("q", [(7, 0)])
        self.assertFalse(book.is_safe())

    def test_plain(self):
        self.assertTrue(safe_book(random.Random(43)).is_plain())
        lives = (0, None, ("p",), (1,))
        for wrong in [[(1, None, ("p",), (1,))], [(0, 9, ("p",), (1,))], [(0, 0, ("p",), (1,)), lives]]:
            book = small()
            book.put_stream("x", ONE, 9, [lives])
            self.assertIs(book.is_plain(), True)
            book.put_stream("y", ONE, 9, wrong)
            self.assertIs(book.is_plain(), False)
        book = small()
        book.put_stream("x", ONE, 9, [lives])
        book.put_changes("q", [(4, 2)])
        self.assertTrue(book.is_plain())
        book.put_changes("q", [(4, 1)])
        self.assertFalse(book.is_plain())
        book = small()
        book.put_stream("x", ONE, 9, [lives])
        book.put_reserve("x", (("q",), (1,)))
        self.assertFalse(book.is_plain())


class TestCopies(unittest.TestCase):
    def test_clones_go_their_own_way(self):
        book = filled()
        twin = book.clone()
        self.assertTrue(twin == book)
        admit(twin, "z", Curve([0]), ["p"], 9)
        self.assertEqual([book.names(), twin.names()], [["x", "y"], ["x", "y", "z"]])
        other = book.clone()
        admit(book, "w", Curve([0]), ["p"], 9)
        self.assertEqual([other.names(), twin.names()], [["x", "y"], ["x", "y", "z"]])
        third = filled().clone()
        third.put_changes("p", [(3, 1)])
        self.assertEqual(filled().supply_of("p"), Supply(3))
        self.assertFalse(third == filled())

    def test_reserves_are_cloned(self):
        book = filled()
        book.put_reserve("x", (("q",), (4,)))
        twin = book.clone()
        book.put_reserve("x", None)
        self.assertEqual([book.reserve_of("x"), twin.reserve_of("x")], [None, (("q",), (4,))])

    def test_returned_lists_are_new(self):
        book = filled()
        for function in (book.names, lambda: book.lives_of("x"), lambda: book.loads_of("q"),
                         book.supply_of("q").changes):
            before = len(function())
            function().clear()
            self.assertEqual(len(function()), before)

    def test_no_connection_with_what_was_passed(self):
        stations, links = [Station("p", 1, 9)], []
        network = Network(stations, links)
        one, two = Book(network), Book(network)
        stations.append(Station("q", 1, 1))
        admit(one, "x", ONE, ["p"], 9)
        self.assertEqual([one.names(), two.names()], [["x"], []])
        self.assertEqual(two.network.names(), ["p"])


class TestEquality(unittest.TestCase):
    def test_one_thing_different(self):
        self.assertTrue(filled() == filled())
        self.assertFalse(filled() != filled())
        others = [small() for _ in range(9)]
        lives = filled().lives_of("x")
        for number, other in enumerate(others):
            x = (ONE if number != 0 else Curve([1, 2], gain=2), 30 if number != 1 else 31,
                 lives if number != 2 else [(0, 3, ("p", "q"), (2, 3)), lives[1]])
            y = (Curve([2, 2], period=2, gain=1), 20, [(1, None, ("q", "p"), (1, 4 if number != 3 else 5))])
            for name, stream in ([("y", y), ("x", x)] if number == 4 else [("x", x), ("y", y)]):
                other.put_stream(name if number != 5 or name == "x" else "z", *stream)
            other.put_changes("q", [(5, 4 if number != 6 else 5)])
            if number == 7:
                other.put_changes("p", [(5, 2)])
            if number == 8:
                other.put_reserve("y", (("p",), (1,)))
        more = filled()
        more.put_stream("w", ONE, 1, [(0, None, ("p",), (1,))])
        elsewhere = Book(Network([Station("p", 3, 9), Station("q", 2, 8)], [("p", "q", 1), ("q", "p", 0)]))
        for other in others + [more, small()]:
            self.assertFalse(filled() == other)
            self.assertTrue(filled() != other)
        self.assertFalse(small() == elsewhere)
        self.assertTrue(small() == small())

    def test_other_values(self):
        for value in STRANGE + [Stranger(), small().network]:
            self.assertFalse(filled() == value)
            self.assertTrue(filled() != value)

    def test_supplies_that_are_written_in_different_ways(self):
        one, two = small(), small()
        one.put_changes("q", [(3, 2), (5, 4), (7, 4)])
        two.put_changes("q", [(5, 4)])
        self.assertTrue(one == two)


if __name__ == "__main__":
    unittest.main()
