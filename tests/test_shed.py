"""Shedding: which streams end such that a capacity can be changed."""

import random
import unittest

import dueways.errors as errors
from dueways.admission import admit
from dueways.book import Book
from dueways.changes import change_capacity, end_stream, shed
from dueways.curves import Curve
from dueways.network import Network, Station
from dueways.runs import forced
from made import any_book
from plain import NO_COUNTS, Stranger
from plain_changes import ended, may_end, shed_book, window
from test_admission import drawn_books
from test_changes import NO_NAMES, NO_TICKS, ONE, Case, reserved


def busy(*curves, capacity=6, room=60):
    """Return a book with streams a, b and so on with these curves at one station p, and a station q beside it."""
    book = Book(Network([Station("p", capacity, room), Station("q", 20, 60)], [("p", "q", 0)]))
    for name, curve in zip("abcdefghij", curves):
        book = forced(book, name, curve, ["p", "q"], [1, 1])
    return book


class TestShed(Case):
    def check(self, book, station, at, capacity, weights):
        """Compare with trying all sets; return the answer."""
        expected = shed_book(book, station, at, capacity, weights)
        before, asked = book.clone(), dict(weights)
        told = shed(book, station, at, capacity, asked)
        self.assertEqual(asked, weights)
        if expected is None:
            self.assertIsNone(told)
            self.assertTrue(book == before)
            return None
        self.assertEqual(told, expected[0])
        self.assertTrue(book == expected[1])
        self.assertIsNone(window(book, station))
        if before.is_safe():
            self.assertTrue(book.is_safe())
        return told

    def test_by_trying_all_sets(self):
        chance = random.Random(231)
        sizes = []
        for book in drawn_books(60, 232) + [any_book(chance, many=3, most=2) for _ in range(20)]:
            for _ in range(2):
                station = chance.choice(book.network.names())
                last = max([tick for tick, _ in book.supply_of(station).changes()], default=0)
                weights = {name: chance.choice([0, 1, 1, 2, 3, 7]) for name in book.names()}
                told = self.check(book, station, last + chance.choice([1, 2, 8]), chance.randint(0, 2), weights)
                sizes.append(None if told is None else len(told))
        self.assertGreater(min(sizes.count(size) for size in (None, 0, 1)), 5)
        self.assertGreater(sizes.count(2), 0)

    def test_least_sum_of_weights(self):
        two = Curve([2], gain=2)
        # 2 of 6 too many: a with one of the others would do as well, but c alone weighs less.
        for weights, expected in [({"a": 3, "b": 2, "c": 1}, ["c"]), ({"a": 1, "b": 1, "c": 1}, ["a"]),
                                  ({"a": 2, "b": 1, "c": 1}, ["b"]), ({"a": 0, "b": 0, "c": 0}, ["a"]),
                                  ({"a": 10 ** 18, "b": 10 ** 18 + 1, "c": 10 ** 18}, ["a"])]:
            self.assertEqual(self.check(busy(two, two, two), "p", 5, 4, weights), expected)
        for weights, expected in [({"a": 3, "b": 1, "c": 1}, ["b", "c"]), ({"a": 2, "b": 1, "c": 1}, ["a"]),
                                  ({"a": 1, "b": 1, "c": 1}, ["a"]), ({"a": 5, "b": 0, "c": 4}, ["b", "c"]),
                                  ({"c": 0, "b": 0, "a": 0}, ["a"])]:
            self.assertEqual(self.check(busy(Curve([4], gain=4), ONE, ONE), "p", 5, 4, weights), expected)

    def test_ties_by_names(self):
        book = busy()
        for name in ("cc", "b", "ca", "c"):
            book = forced(book, name, ONE, ["p"], [1])
        weights = {"cc": 1, "b": 9, "ca": 1, "c": 1}
        self.assertEqual(self.check(book, "p", 5, 2, weights), ["c", "ca"])
        weights = {"cc": 1, "b": 2, "ca": 1, "c": 9}
        book = busy()
        for name in ("cc", "b", "ca", "c"):
            book = forced(book, name, ONE, ["p"], [1])
        self.assertEqual(self.check(book, "p", 5, 1, weights), ["b", "ca", "cc"])

    def test_which_streams_may_end(self):
        two = Curve([2], gain=2)
        book = busy(capacity=20)
        lives = {"a": [(0, None)], "b": [(5, None)], "c": [(6, None)], "d": [(0, 5)], "e": [(0, 6)],
                 "f": [(0, 2), (3, None)], "g": [(0, 4)]}
        for name, parts in lives.items():
            book.put_stream(name, two, 9, [(begin, end, ("p",), (1,)) for begin, end in parts])
        book.put_stream("h", two, 9, [(0, 5, ("p",), (1,)), (5, None, ("q",), (1,))])
        book.put_stream("i", two, 9, [(0, None, ("q",), (1,))])
        weights = {name: 1 for name in book.names()}
        self.assertEqual(may_end(book, "p", 5), ["a", "b", "e", "f"])
        for capacity, expected in [(10, []), (8, []), (7, ["a"]), (4, ["a", "b"]), (2, ["a", "b", "f"]), (1, None)]:
            self.assertEqual(self.check(book.clone(), "p", 5, capacity, weights), expected)
        self.assertEqual(self.check(book.clone(), "p", 6, 0, weights), ["a", "b", "c", "f"])
        # Their other lives stay as they were.
        self.check(book, "p", 5, 2, {**weights, "e": 0})
        self.assertEqual(book.lives_of("f"), [(0, 2, ("p",), (1,)), (3, 5, ("p",), (1,))])
        self.assertEqual(book.lives_of("e"), [(0, 6, ("p",), (1,))])
        self.assertEqual(book.lives_of("b"), [(5, 5, ("p",), (1,))])

    def test_no_stream_has_to_end(self):
        book = busy(ONE, ONE)
        self.assertEqual(self.check(book, "p", 5, 2, {"a": 0, "b": 0}), [])
        self.assertEqual(book.supply_of("p").changes(), [(5, 2)])
        self.assertEqual(self.check(book, "p", 6, 2, {"b": 0, "a": 0}), [])
        self.assertEqual(book.supply_of("p").changes(), [(5, 2)])
        self.assertEqual(shed(book=book, station="p", at=6, capacity=20, weights={"a": 0, "b": 0}), [])
        empty = busy()
        self.assertEqual(self.check(empty, "p", 1, 0, {}), [])

    def test_no_set_is_enough(self):
        # The units that enter before the end must still be served after it.
        book = busy()
        book.put_stream("a", Curve([12]), 12, [(0, None, ("p",), (3,))])
        self.assertIsNone(self.check(book, "p", 5, 0, {"a": 1}))
        self.assertEqual(book.supply_of("p").changes(), [])
        self.assertIsNone(self.check(book, "p", 1, 2, {"a": 1}))
        self.assertEqual(self.check(book.clone(), "p", 5, 3, {"a": 1}), ["a"])
        self.assertEqual(self.check(book, "p", 5, 4, {"a": 1}), [])

    def test_other_stations_do_not_matter(self):
        book = forced(busy(ONE, ONE), "z", Curve([20], gain=20), ["q"], [1])
        self.assertFalse(book.is_safe())
        self.assertEqual(self.check(book, "p", 5, 1, {"a": 2, "b": 1, "z": 0}), ["b"])

    def test_eight_streams(self):
        book = busy(*[ONE] * 9, capacity=9)
        weights = {name: place for place, name in enumerate(book.names())}
        self.refuse(book, errors.TooMany, {"limit": 8}, shed, "p", 5, 9, weights)
        end_stream(book, "i", 5)
        self.assertEqual(self.check(book.clone(), "p", 5, 3, weights), ["a", "b", "c", "d", "e"])
        self.assertEqual(self.check(book.clone(), "p", 5, 0, weights), list("abcdefgh"))
        # So many as can be ended count, whether any has to end or not.
        self.assertEqual(self.check(book.clone(), "q", 5, 20, weights), [])
        self.refuse(book, errors.TooMany, {"limit": 8}, shed, "q", 4, 20, weights)

    def test_answers_may_be_changed(self):
        book, other = busy(ONE, ONE), busy(ONE, ONE)
        weights = {"a": 1, "b": 1}
        told = shed(book, "p", 5, 1, weights)
        told.clear()
        weights.clear()
        self.assertEqual(shed(other, "p", 5, 1, {"b": 1, "a": 1}), ["a"])
        self.assertTrue(book == other)

    def test_errors(self):
        book = busy(ONE, ONE)
        change_capacity(book, "p", 3, 5)
        many = forced(book, "z", ONE, ["p"], [1])
        for name in "cdefghi":
            many = forced(many, name, ONE, ["p"], [1])
        good = {name: 1 for name in many.names()}
        weights = [None, [], (), "ab", 0, Stranger(), {}, {"a": 1}, {"a": 1, "b": 1, "c": 1}, {"a": 1, "p": 1},
                   {"a": 1, 2: 1}, {"a": 1, "A": 1}, [("a", 1), ("b", 1)]]
        weights += [{"a": value, "b": 1} for value in NO_COUNTS] + [{"a": 1, "b": value} for value in NO_COUNTS]
        right = {"station": "p", "at": 4, "capacity": 5, "weights": {"a": 1, "b": 1}}
        wrong = [
            ("station", [(value, errors.UnknownStation, {"value": value}) for value in NO_NAMES + ["a", "r"]]),
            ("at", [(value, errors.InvalidTick, {"value": value}) for value in NO_TICKS + [0, 1, 3]]),
            ("capacity", [(value, errors.InvalidCount, {"value": value}) for value in NO_COUNTS + [21]]),
            ("weights", [(value, errors.InvalidWeights, {}) for value in weights]),
        ]
        for place, (part, cases) in enumerate(wrong):
            for value, error, told in cases:
                self.refuse(book, error, told, shed, **{**right, part: value})
                self.refuse(many, error, told, shed, **{**right, part: value})
                for other, others in wrong[place + 1:]:
                    self.refuse(book, error, told, shed, **{**right, part: value, other: others[0][0]})
                if part == "station":
                    self.refuse(reserved(book), error, told, shed, **{**right, part: value})
                else:
                    self.refuse(reserved(book), errors.HasReserves, {}, shed, **{**right, part: value})
        self.refuse(reserved(book), errors.HasReserves, {}, shed, **right)
        self.refuse(many, errors.TooMany, {"limit": 8}, shed, **{**right, "weights": good})
        self.assertEqual(shed(book, **right), [])

    def test_safe_books(self):
        chance = random.Random(233)
        for _ in range(15):
            book = Book(Network([Station("p", 3, 40), Station("q", 3, 40)], [("p", "q", 1), ("q", "p", 0)]))
            for name in "abcde":
                try:
                    admit(book, name, ONE, chance.choice([["p"], ["q"], ["p", "q"], ["q", "p"]]), 30)
                except errors.Refused:
                    pass
            weights = {name: chance.randint(0, 5) for name in book.names()}
            self.check(book, "p", 9, chance.randint(0, 2), weights)
            self.assertTrue(book.is_safe())
        self.assertTrue(ended(book, "a", 9).is_safe() or book.lives_of("a")[-1][1] is not None)


if __name__ == "__main__":
    unittest.main()
