"""Stations, networks, paths and splits."""

import random
import unittest

from dueways.errors import InvalidNetwork, InvalidPath, InvalidSplit, InvalidStation, NoLink, UnknownStation
from dueways.network import Network, Station, check_split
from plain import NO_COUNTS, NO_INTEGERS, Stranger

NO_NAMES = NO_INTEGERS[:2] + [value for value in NO_INTEGERS if value not in ("",)] + [
    "", "A", "a1", "a b", "abcdefghi", "a_b", "a\n", " a", "\u00e9", "`", "{", 0, 5, -1]


def grid():
    """Return a network of four stations."""
    stations = [Station("p", 1, 5), Station("q", 2, 6, may_fail=True), Station("r", 0, 0), Station("abcdefgh", 20, 200)]
    return Network(stations, [("r", "p", 10), ("p", "q", 0), ("q", "p", 3), ("q", "r", 1), ("r", "abcdefgh", 2)])


class TestStations(unittest.TestCase):
    def problem(self, *values, **named):
        with self.assertRaises(InvalidStation) as caught:
            Station(*values, **named)
        return caught.exception.problem

    def test_values(self):
        station = Station("cpu", 3, 40, may_fail=True)
        self.assertEqual((station.name, station.capacity, station.room, station.may_fail), ("cpu", 3, 40, True))
        station = Station(name="a", capacity=0, room=0)
        self.assertEqual((station.name, station.capacity, station.room), ("a", 0, 0))
        self.assertIs(station.may_fail, False)
        self.assertIs(Station("z", 1, 1, may_fail=False).may_fail, False)
        with self.assertRaises(TypeError):
            Station("a", 1, 1, True)

    def test_limits(self):
        station = Station("abcdefgh", 20, 200)
        self.assertEqual((station.name, station.capacity, station.room), ("abcdefgh", 20, 200))
        self.assertEqual([self.problem("a", 21, 1), self.problem("a", 1, 201)], ["capacity", "room"])
        self.assertEqual(self.problem("abcdefghi", 1, 1), "name")

    def test_each_problem_for_any_value(self):
        for value in NO_NAMES:
            with self.subTest(value):
                self.assertEqual(self.problem(value, 1, 1), "name")
        for value in NO_COUNTS:
            with self.subTest(value):
                self.assertEqual(self.problem("a", value, 1), "capacity")
                self.assertEqual(self.problem("a", 1, value), "room")
        for value in [0, 1, None, "", "yes", [], Stranger()]:
            with self.subTest(value):
                self.assertEqual(self.problem("a", 1, 1, may_fail=value), "may_fail")

    def test_the_first_problem_is_raised(self):
        self.assertEqual(self.problem("", -1, -1, may_fail=1), "name")
        self.assertEqual(self.problem("a", True, -1, may_fail=1), "capacity")
        self.assertEqual(self.problem("a", 1, -1, may_fail=1), "room")


class TestNetworks(unittest.TestCase):
    def problem(self, *values, **named):
        with self.assertRaises(InvalidNetwork) as caught:
            Network(*values, **named)
        return caught.exception.problem, caught.exception.position

    def test_names_and_links(self):
        network = grid()
        self.assertEqual(network.names(), ["p", "q", "r", "abcdefgh"])
        self.assertEqual(network.links(), [("p", "q", 0), ("q", "p", 3), ("q", "r", 1), ("r", "abcdefgh", 2),
                                           ("r", "p", 10)])
        self.assertEqual(Network([Station("a", 1, 1)]).links(), [])
        self.assertEqual(Network(stations=[Station("a", 1, 1)], links=[]).names(), ["a"])

    def test_new_lists_and_copies(self):
        stations, links = [Station("a", 1, 1), Station("b", 1, 1)], [("b", "a", 4)]
        network = Network(stations, links)
        stations.clear()
        links.append(("a", "b", 1))
        network.names().clear()
        network.links().clear()
        self.assertEqual([network.names(), network.links()], [["a", "b"], [("b", "a", 4)]])
        self.assertEqual([stations, links], [[], [("b", "a", 4), ("a", "b", 1)]])

    def test_find(self):
        network = grid()
        found = network.find(name="q")
        self.assertIsInstance(found, Station)
        self.assertEqual((found.name, found.capacity, found.room, found.may_fail), ("q", 2, 6, True))
        for value in NO_NAMES + ["x", ["p"], ("p",)]:
            with self.subTest(value), self.assertRaises(UnknownStation) as caught:
                network.find(value)
            self.assertEqual(repr(caught.exception.value), repr(value))

    def test_link(self):
        network = grid()
        self.assertEqual([network.link("p", "q"), network.link(source="r", target="p")], [0, 10])
        for value in NO_NAMES + ["x"]:
            for pair in [(value, "p"), ("p", value), (value, None)]:
                with self.subTest(pair), self.assertRaises(UnknownStation) as caught:
                    network.link(*pair)
                self.assertEqual(repr(caught.exception.value), repr(value))
        for pair in [("p", "r"), ("p", "p"), ("abcdefgh", "r")]:
            with self.assertRaises(NoLink) as caught:
                network.link(*pair)
            self.assertEqual((caught.exception.source, caught.exception.target), pair)

    def test_numbers_of_stations(self):
        names = "abcdefghijk"
        stations = [Station(name, 1, 1) for name in names]
        self.assertEqual(Network(stations[:10]).names(), list(names[:10]))
        self.assertEqual(self.problem(stations), ("stations", 0))
        self.assertEqual([self.problem([]), self.problem(tuple(stations[:2]))], [("stations", 0)] * 2)

    def test_wrong_stations(self):
        station = Station("a", 1, 1)
        for value in NO_INTEGERS + [station, "a", 1]:
            with self.subTest(value):
                if value != [1]:
                    self.assertEqual(self.problem(value, None), ("stations", 0))
        for value in NO_INTEGERS + [1, "a", ("a", 1, 1), [station]]:
            with self.subTest(value):
                self.assertEqual(self.problem([value, None]), ("station", 0))
                self.assertEqual(self.problem([station, station, value, None], None), ("station", 2))

    def test_wrong_names(self):
        one, two, three = Station("a", 1, 1), Station("b", 1, 1), Station("a", 2, 2)
        self.assertEqual(self.problem([one, two, three]), ("name", 2))
        self.assertEqual(self.problem([one, two, two, one], None), ("name", 2))
        self.assertEqual(self.problem([one, one, two, two], [None]), ("name", 1))

    def test_wrong_links(self):
        stations = [Station("a", 1, 1), Station("b", 1, 1)]
        for value in NO_COUNTS + ["ab"]:
            if not (isinstance(value, (list, tuple)) and len(value) == 0) and value not in ([1], (1,)):
                with self.subTest(value):
                    self.assertEqual(self.problem(stations, value), ("links", 0))
        wrong = NO_INTEGERS + [
            ("a", "b"), ("a", "b", 1, 1), ["a", "b", 1], ("a", "a", 1), ("a", "x", 1), ("x", "a", 1), ("a", "b", 11),
            ("a", "b", -1), ("a", "b", True), ("a", "b", None), (["a"], "b", 1), ("a", {}, 1), (None, None, 1),
            ("a", stations[1], 1), "ab1"]
        for value in wrong:
            with self.subTest(value):
                self.assertEqual(self.problem(stations, [value, None]), ("link", 0))
                self.assertEqual(self.problem(stations, (("b", "a", 10), value)), ("link", 1))
        self.assertEqual(self.problem(stations, [("a", "b", 1), ("b", "a", 1), ("a", "b", 2), None]), ("link", 2))
        self.assertEqual(self.problem(stations, [("a", "b", 1), ("a", "b", 1)]), ("link", 1))
        self.assertEqual(Network(stations, (("a", "b", 0), ("b", "a", 10))).links(), [("a", "b", 0), ("b", "a", 10)])

    def test_equality(self):
        def made(second=("b", 1, 2, False), links=(("a", "b", 1), ("b", "a", 2)), turned=False, more=()):
            stations = [Station("a", 1, 1), Station(second[0], second[1], second[2], may_fail=second[3])]
            return Network((stations[::-1] if turned else stations) + list(more), links)

        self.assertTrue(made() == made())
        self.assertFalse(made() != made())
        self.assertTrue(made() == made(links=[("b", "a", 2), ("a", "b", 1)]))
        others = [made(("b", 2, 2, False)), made(("b", 1, 3, False)), made(("b", 1, 2, True)), made(links=()),
                  made(("c", 1, 2, False), links=()), made(links=[("a", "b", 1), ("b", "a", 3)]), made(turned=True),
                  made(links=[("a", "b", 1)]), made(more=[Station("c", 1, 1)]), made(links=[("a", "b", 2), ("b", "a", 1)])]
        for other in others + NO_INTEGERS + [Stranger(), Station("a", 1, 1)]:
            with self.subTest(other):
                self.assertFalse(made() == other)
                self.assertTrue(made() != other)


class TestPaths(unittest.TestCase):
    def position(self, value):
        with self.assertRaises(InvalidPath) as caught:
            grid().check_path(value)
        return caught.exception.position

    def test_paths(self):
        for path in [["p"], ["r"], ["p", "q"], ["q", "p"], ["p", "q", "r"], ["q", "r", "p"],
                     ["p", "q", "r", "abcdefgh"]]:
            before = list(path)
            self.assertIsNone(grid().check_path(value=path))
            self.assertEqual(path, before)

    def test_limits(self):
        stations = [Station(name, 1, 1) for name in "abcdef"]
        network = Network(stations, [(one, two, 0) for one, two in zip("abcde", "bcdef")])
        self.assertIsNone(network.check_path(list("abcde")))
        with self.assertRaises(InvalidPath) as caught:
            network.check_path(list("abcdef"))
        self.assertEqual(caught.exception.position, 0)

    def test_no_lists(self):
        for value in NO_COUNTS + ["p", ("p",), {"p": 1}, {"p"}, [], ["p"] * 6]:
            if value != [1]:
                with self.subTest(value):
                    self.assertEqual(self.position(value), 0)

    def test_wrong_stations(self):
        for value in NO_NAMES + ["x", ["p"]]:
            with self.subTest(value):
                self.assertEqual([self.position([value]), self.position(["p", "q", value, None])], [0, 2])
        self.assertEqual(self.position(["p", "r"]), 1)
        self.assertEqual(self.position(["p", "q", "p"]), 2)
        self.assertEqual(self.position(["p", "p"]), 1)
        self.assertEqual(self.position(["q", "r", "q", "x"]), 2)
        self.assertEqual(self.position(["abcdefgh", "r"]), 1)


class TestSplits(unittest.TestCase):
    def position(self, path, value):
        with self.assertRaises(InvalidSplit) as caught:
            check_split(grid(), path, value)
        return caught.exception.position

    def test_totals(self):
        self.assertEqual(check_split(grid(), ["p"], [7]), 7)
        self.assertEqual(check_split(grid(), ["p", "q"], [1, 12]), 13)
        self.assertEqual(check_split(network=grid(), path=["p", "q", "r", "abcdefgh"], value=[1, 2, 3, 4]), 13)
        chance = random.Random(31)
        lengths = {("p", "q"): 0, ("q", "r"): 1, ("r", "p"): 10, ("r", "abcdefgh"): 2, ("q", "p"): 3}
        for path in [["q", "r", "p"], ["p", "q", "r"], ["r", "p", "q"], ["q", "p"]]:
            for _ in range(20):
                split = [chance.randint(1, 12) for _ in path]
                links = sum(lengths[pair] for pair in zip(path, path[1:]))
                self.assertEqual(check_split(grid(), path, split), sum(split) + links)

    def test_wrong_paths_first(self):
        for path, position in [(["x"], 0), (["p", "r"], 1), (("p",), 0), (None, 0)]:
            with self.assertRaises(InvalidPath) as caught:
                check_split(grid(), path, None)
            self.assertEqual(caught.exception.position, position)

    def test_wrong_splits(self):
        for value in NO_COUNTS + [5, (1, 1), "11"]:
            if value not in ([], [1]):
                with self.subTest(value):
                    self.assertEqual(self.position(["p", "q"], value), 0)
        for value in NO_COUNTS + [0, 13]:
            with self.subTest(value):
                self.assertEqual(self.position(["p", "q"], [value]), 0)
                self.assertEqual(self.position(["p", "q"], [1, value, None]), 1)
                self.assertEqual(self.position(["p", "q"], [12, 1, 1, value]), 3)

    def test_wrong_lengths(self):
        path = ["p", "q", "r"]
        self.assertEqual([self.position(path, [1] * many) for many in (0, 1, 2, 4, 5, 6)], [0, 1, 2, 3, 3, 3])
        self.assertEqual(self.position(["p"], [1, 1]), 1)


if __name__ == "__main__":
    unittest.main()
