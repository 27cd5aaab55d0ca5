"""Splits of all: the cases of the search, the books with other splits, and refusals by cases."""

import random
import unittest

import dueways.errors as errors
from dueways.admission import admit
from dueways.book import Book
from dueways.cases import is_refusal, split_all
from dueways.changes import change_capacity, end_stream
from dueways.curves import Curve
from dueways.network import Network, Station
from dueways.records import tightest
from dueways.runs import forced
from made import CURVES, curve, drawn_network, drawn_path
from plain import NO_COUNTS, NO_INTEGERS, Stranger
from plain_cases import PlainCases, all_safe, searched
from test_changes import Case, reserved

ONE = Curve([1], gain=1)


def one_station(capacity=1, room=9):
    return Book(Network([Station("a", capacity, room)]))


def drawn_plain(chance, many, most_path=2):
    """Return a plain book with streams of small withins, that need not be safe."""
    book = Book(drawn_network(chance, many=chance.choice([1, 2, 3]), most_room=12))
    for name in "abcdef"[:many]:
        path = drawn_path(chance, book.network, most_path)
        split = [chance.randint(1, 3) for _ in path]
        book = forced(book, name, curve(chance.choice(CURVES)), path, split)
        book.put_stream(name, book.curve_of(name), min(100, book.within_of(name) + chance.randint(0, 6)),
                        book.lives_of(name))
    return book


def tight(many, within=12):
    """Return a book of one station with so many streams of one burst of two units."""
    book = one_station(room=200)
    for name in "bcdefghijk"[:many]:
        book.put_stream(name, Curve([2]), within, [(0, None, ("a",), (1,))])
    return book


class TestSplitAll(Case):
    def check(self, book, name, new, path, within):
        """Compare with the plain search; return the first word of what was found."""
        expected = searched(book, name, new, path, within)
        before, asked = book.clone(), list(path)
        if expected is None:
            self.refuse(book, errors.TooMany, {"limit": 400}, split_all, name, new, path, within)
            return "many"
        cases, safe = expected
        if safe is None:
            with self.assertRaises(errors.NoSplits) as caught:
                split_all(book, name, new, asked, within)
            self.assertEqual(caught.exception.cases, cases)
            self.assertIs(type(caught.exception.cases), dict)
            self.assertTrue(book == before)
            self.assertTrue(is_refusal(book, name, new, path, within, caught.exception.cases))
            return "none"
        made = split_all(book, name, new, asked, within)
        self.assertEqual(asked, path)
        self.assertTrue(book == before)
        asked.clear()
        self.assertEqual(made.names(), book.names() + [name])
        self.assertTrue(made.is_safe() and made.is_plain())
        plain = PlainCases(book, name, new, path, within)
        for (stream, limits, route, most), split in zip(plain.streams, plain.splits(safe)):
            self.assertEqual(made.lives_of(stream), [(0, None, tuple(route), tuple(split))])
            self.assertEqual((made.curve_of(stream), made.within_of(stream)), (limits, most))
            self.assertIsNone(made.reserve_of(stream))
        self.assertFalse(is_refusal(book, name, new, path, within, cases))
        return "safe"

    def test_by_the_plain_search(self):
        chance = random.Random(241)
        told = []
        for number in range(260):
            book = drawn_plain(chance, chance.randint(0, 4))
            path = drawn_path(chance, book.network, 2)
            told.append(self.check(book, "z", curve(chance.choice(CURVES)), path, chance.choice([2, 4, 6, 9, 14])))
        self.assertGreater(told.count("safe"), 40)
        self.assertGreater(told.count("none"), 40)

    def test_by_trying_all_splits(self):
        chance = random.Random(242)
        told = {"safe": 0, "none": 0}
        while min(told.values()) < 12:
            book = drawn_plain(chance, chance.randint(1, 2), 1 + chance.randint(0, 1))
            for name in book.names():
                book.put_stream(name, book.curve_of(name), min(5, book.within_of(name)), book.lives_of(name))
            path = drawn_path(chance, book.network, 1)
            new = curve(chance.choice(CURVES))
            plain = PlainCases(book, "z", new, path, 5)
            if len(plain.ones()) > 4 or plain.result(plain.ones()) == ("safe",):
                continue
            vectors = all_safe(book, "z", new, path, 5, 5)
            found = self.check(book, "z", new, path, 5)
            self.assertEqual(found, "safe" if vectors else "none")
            told[found] += 1

    def test_an_admitted_stream_makes_place(self):
        book = one_station()
        self.assertEqual(admit(book, "x", Curve([1]), ["a"], 3), [1])
        self.refuse(book, errors.Refused, {}, admit, "y", Curve([1]), ["a"], 1)
        more = split_all(book=book, name="y", curve=Curve([1]), path=["a"], within=1)
        self.assertEqual([more.lives_of("x"), more.lives_of("y")],
                         [[(0, None, ("a",), (2,))], [(0, None, ("a",), (1,))]])
        self.assertEqual(book.lives_of("x"), [(0, None, ("a",), (1,))])
        alone = split_all(one_station(), "y", Curve([1]), ["a"], 1)
        self.assertEqual(alone.names(), ["y"])

    def test_case_by_case(self):
        book = one_station(room=9)
        book.put_stream("x", Curve([1]), 2, [(0, None, ("a",), (1,))])
        with self.assertRaises(errors.NoSplits) as caught:
            split_all(book, "y", Curve([2]), ["a"], 2)
        self.assertEqual(list(caught.exception.cases.items()), [
            ((1, 1), ("time", "a", 1, ((2, 1), (1, 2)))),
            ((2, 1), ("time", "a", 1, ((2, 2),))),
            ((2, 2), ("time", "a", 2, ((3, 2), (2, 3)))),
            ((3, 2), ("slow", "x")),
            ((2, 3), ("slow", "y")),
            ((1, 2), ("time", "a", 2, ((3, 2), (1, 3)))),
            ((1, 3), ("slow", "y")),
        ])
        book.put_stream("x", Curve([1]), 3, [(0, None, ("a",), (1,))])
        made = split_all(book, "y", Curve([2]), ["a"], 2)
        self.assertEqual([made.lives_of(name)[0][3] for name in "xy"], [(3,), (2,)])

    def test_results_of_all_kinds(self):
        book = Book(Network([Station("p", 1, 3), Station("q", 1, 9)], [("p", "q", 1)]))
        book.put_stream("x", Curve([1]), 4, [(0, None, ("p", "q"), (1, 1))])
        for room, new, within, expected in [
                (3, Curve([2]), 1, {(1, 1, 1): ("time", "p", 1, ((2, 1, 1), (1, 1, 2))), (1, 1, 2): ("slow", "z"),
                                    (2, 1, 1): ("time", "p", 1, ((2, 1, 2),)), (2, 1, 2): ("slow", "z")}),
                (2, Curve([2]), 9, {(1, 1, 1): ("room", "p")}),
                (9, Curve([2]), 0, {(1, 1, 1): ("slow", "z")})]:
            other = Book(Network([Station("p", 1, room), Station("q", 1, 9)], [("p", "q", 1)]))
            other.put_stream("x", Curve([1]), 4, book.lives_of("x"))
            with self.assertRaises(errors.NoSplits) as caught:
                split_all(other, "z", new, ["p"], within)
            self.assertEqual(caught.exception.cases, expected)
        # The first stream that is too slow, and the first station with too little room.
        slow = forced(forced(book, "a", ONE, ["q"], [1]), "b", ONE, ["q"], [1])
        slow.put_stream("x", Curve([1]), 2, [(0, None, ("p", "q"), (1, 1))])
        with self.assertRaises(errors.NoSplits) as caught:
            split_all(slow, "z", ONE, ["q"], 0)
        self.assertEqual(caught.exception.cases, {(1, 1, 1, 1, 1): ("slow", "x")})
        full = Book(Network([Station("p", 9, 0), Station("q", 9, 0)], [("q", "p", 0)]))
        with self.assertRaises(errors.NoSplits) as caught:
            split_all(full, "z", ONE, ["q", "p"], 9)
        self.assertEqual(caught.exception.cases, {(1, 1): ("room", "p")})

    def test_a_time_of_13(self):
        # No greater time takes anything from the demand: a curve of no units, and one that is too steep.
        book = one_station(capacity=0, room=200)
        with self.assertRaises(errors.NoSplits) as caught:
            split_all(book, "z", Curve([1]), ["a"], 100)
        cases = caught.exception.cases
        self.assertEqual(cases[(12,)], ("time", "a", 12, ((13,),)))
        self.assertEqual(cases[(13,)], ("slow", "z"))
        self.assertEqual(len(cases), 13)
        # One time of 13 is enough, whatever the total is.
        pair = Book(Network([Station("a", 0, 200), Station("b", 9, 200)], [("a", "b", 0)]))
        with self.assertRaises(errors.NoSplits) as caught:
            split_all(pair, "z", Curve([1]), ["a", "b"], 100)
        self.assertEqual(caught.exception.cases[(13, 1)], ("slow", "z"))
        self.assertEqual(len(caught.exception.cases), 13)
        book = one_station(capacity=1)
        book.put_stream("x", Curve([0]), 100, [(0, None, ("a",), (1,))])
        with self.assertRaises(errors.NoSplits) as caught:
            split_all(book, "z", Curve([2], gain=2), ["a"], 100)
        self.assertEqual(caught.exception.cases[(1, 1)], ("time", "a", 1, ((13, 1), (1, 2))))
        self.assertEqual(caught.exception.cases[(13, 1)], ("slow", "x"))

    def test_steps_over_times_that_change_nothing(self):
        # At length 9 all times from 2 to 9 have the same demand of 3.
        book = one_station(capacity=1, room=200)
        new = Curve([3] * 8 + [4], period=1, gain=0)
        book.put_stream("x", Curve([7]), 12, [(0, None, ("a",), (1,))])
        plain = PlainCases(book, "z", new, ["a"], 12)
        self.assertEqual(plain.result((9, 2)), ("time", "a", 2, ((9, 3),)))
        self.assertEqual(plain.result((9, 3)), ("time", "a", 9, ((10, 3), (9, 10))))
        self.check(book, "z", new, ["a"], 12)

    def test_too_many_cases(self):
        self.assertEqual(self.check(tight(4, 9), "z", Curve([2]), ["a"], 9), "many")
        told = []
        for many in (2, 3):
            for within in range(2, 9):
                for new in (Curve([2]), Curve([1]), Curve([3])):
                    told.append(self.check(tight(many, within), "z", new, ["a"], within))
        self.assertEqual(set(told), {"none", "many", "safe"})

    def test_400_cases_and_401(self):
        four = [("b", ([3, 3, 3], 3, 2), 5), ("c", ([1], 1, 1), 8), ("d", ([2], 1, 1), 12), ("e", ([1, 1, 1, 1], 4, 1), 5)]
        more = [("b", ([1], 1, 1), 4), ("c", ([2, 3], 1, 1), 8), ("d", ([3, 3, 3], 3, 2), 8)]
        for streams, new, within, size in [(four, ([2], 1, 1), 3, 400), (more, ([1, 1, 1, 1], 4, 1), 4, None)]:
            book = one_station(room=200)
            for name, writing, most in streams:
                book.put_stream(name, curve(writing), most, [(0, None, ("a",), (1,))])
            told = searched(book, "z", curve(new), ["a"], within)
            self.assertEqual(None if told is None else len(told[0]), size)
            self.assertEqual(self.check(book, "z", curve(new), ["a"], within), "many" if size is None else "none")

    def test_safe_on_the_way(self):
        # A safe case ends the search, whatever is left.
        book = tight(2)
        made = split_all(book, "z", Curve([2]), ["a"], 12)
        self.assertTrue(made.is_safe())
        self.check(book, "z", Curve([2]), ["a"], 12)

    def test_answers_may_be_changed(self):
        book = one_station(capacity=0)
        told = []
        for _ in range(2):
            with self.assertRaises(errors.NoSplits) as caught:
                split_all(book, "z", ONE, ["a"], 3)
            told.append(dict(caught.exception.cases))
            caught.exception.cases.clear()
        self.assertEqual(told[0], told[1])
        made = split_all(one_station(), "y", ONE, ["a"], 3)
        other = split_all(one_station(), "y", ONE, ["a"], 3)
        end_stream(made, "y", 4)
        self.assertFalse(made == other)

    def errors_of(self, call, *behind):
        book = one_station()
        admit(book, "x", Curve([1]), ["a"], 9)
        ended, changed, later = book.clone(), book.clone(), one_station()
        end_stream(ended, "x", 4)
        change_capacity(changed, "a", 4, 2)
        admit(later, "x", Curve([1]), ["a"], 9, begin=1)
        ten = one_station()
        for name in "bcdefghijk":
            ten = forced(ten, name, Curve([0]), ["a"], [1])
        wide = tightest([1] + [0] * 25 + [1])
        right = ["z", ONE, ["a"], 9]
        wrong = [
            (0, [(value, errors.InvalidName, {"value": value}) for value in NO_INTEGERS + ["A", "abcdefghi", 0]]),
            (0, [("x", errors.NameTaken, {"taken": "x"})]),
            (1, [(Curve([1, 3]), errors.NotGood, {"first": 1, "second": 1}), (wide, errors.TooLong, {"limit": 24})]),
            (2, [(value, errors.InvalidPath, {"position": 0}) for value in [None, ("a",), [], ["b"], "a"]]),
            (2, [(["a", "a"], errors.InvalidPath, {"position": 1})]),
            (3, [(value, errors.InvalidTime, {"value": value}) for value in NO_COUNTS + [101]]),
        ]
        for place, (part, cases) in enumerate(wrong):
            for value, error, told in cases:
                asked = list(right)
                asked[part] = value
                self.refuse(book, error, told, call, *asked, *behind)
                for other, others in wrong[place + 1:]:
                    if other != part:
                        again = list(asked)
                        again[other] = others[0][0]
                        self.refuse(book, error, told, call, *again, *behind)
                for twin in (ended, changed, later, reserved(book)):
                    self.refuse(twin, error, told, call, *asked, *behind)
                if error is not errors.NameTaken:
                    self.refuse(ten, error, told, call, *asked, *behind)
        ended_ten = ten.clone()
        end_stream(ended_ten, "b", 3)
        for twin in (ended, changed, later, ended_ten, reserved(book), reserved(ten)):
            self.refuse(twin, errors.NotPlain, {}, call, *right, *behind)
        self.refuse(ten, errors.TooMany, {"limit": 10}, call, *right, *behind)

    def test_errors(self):
        self.errors_of(split_all)

    def test_errors_of_refusals(self):
        for value in ({}, None, {(1, 1): ("slow", "z")}):
            self.errors_of(is_refusal, value)


class TestRefusals(Case):
    def tables(self):
        """Return a list of (book, asked, cases) of streams for which there are no splits."""
        chance = random.Random(244)
        found = []
        while len(found) < 25:
            book = drawn_plain(chance, chance.randint(0, 3))
            asked = ("z", curve(chance.choice(CURVES)), drawn_path(chance, book.network, 2), chance.choice([3, 5, 8]))
            told = searched(book, *asked)
            if told is not None and told[1] is None:
                found.append((book, asked, told[0]))
        return found

    def test_cases_of_no_splits(self):
        for book, asked, cases in self.tables():
            before, twin = dict(cases), book.clone()
            self.assertIs(is_refusal(book, *asked, cases), True)
            self.assertIs(is_refusal(book, *asked, dict(reversed(list(cases.items())))), True)
            name, new, path, within = asked
            self.assertTrue(is_refusal(book=book, name=name, curve=new, path=path, within=within, value=cases))
            self.assertEqual(cases, before)
            self.assertTrue(book == twin)

    def test_one_entry_less(self):
        for book, asked, cases in self.tables():
            for vector in list(cases)[:40]:
                less = {key: result for key, result in cases.items() if key != vector}
                # Each case is the vector of ones or the next one of another case.
                self.assertIs(is_refusal(book, *asked, less), False)
        self.assertIs(is_refusal(book, *asked, {}), False)

    def test_more_entries(self):
        for book, asked, cases in self.tables():
            plain = PlainCases(book, *asked)
            size = len(plain.ones())
            for further in [(13,) * size, (12,) * size, (2,) * size, (1,) * (size - 1) + (3,)]:
                more = dict(cases)
                more[further] = plain.result(further)
                complete = more[further][0] != "time" or all(one in more for one in more[further][3])
                self.assertIs(is_refusal(book, *asked, more), complete and more[further] != ("safe",))
                more[further] = ("slow", "y")
                self.assertIs(is_refusal(book, *asked, more), False)
            for key in [(14,) * size, (0,) * size, (1,) * (size + 1), (1,) * (size - 1), (), None, 1, "1", (True,) * size,
                        ("1",) * size, (None,) * size, Stranger(), b"1", frozenset()]:
                more = dict(cases)
                more.pop(key, None)
                more[key] = ("slow", "z")
                self.assertIs(is_refusal(book, *asked, more), False)

    def test_one_part_changed(self):
        for book, asked, cases in self.tables():
            for vector, result in list(cases.items())[:12]:
                others = [None, (), [], list(result), result + (1,), result[:-1], ("safe",), ("slow",), "slow", 1,
                          Stranger(), ("room",) + result[1:], (True,) + result[1:], {}, (result,)]
                for place, part in enumerate(result):
                    parts = [None, "y", 0, True, [], Stranger(), b"p", (part,)]
                    if isinstance(part, int):
                        parts += [part + 1, part - 1, str(part)]
                    if isinstance(part, tuple):
                        parts += [list(part), part[:-1], part + part, tuple(reversed(part)), tuple(map(list, part))]
                        parts += [part[:-1] + ((True,) * len(part[0]),), part[:-1] + (part[0][:-1] + (14,),)]
                    others += [result[:place] + (other,) + result[place + 1:] for other in parts]
                for other in others:
                    if isinstance(other, tuple) and repr(other) == repr(result):
                        continue
                    self.assertIs(is_refusal(book, *asked, {**cases, vector: other}), False)

    def test_true_in_place_of_1(self):
        book = one_station(capacity=0)
        asked = ("z", Curve([1]), ["a"], 1)
        cases = {(1,): ("time", "a", 1, ((2,),)), (2,): ("slow", "z")}
        self.assertIs(is_refusal(book, *asked, cases), True)
        self.assertIs(is_refusal(book, *asked, {(True,): cases[(1,)], (2,): cases[(2,)]}), False)
        self.assertIs(is_refusal(book, *asked, {**cases, (1,): ("time", "a", True, ((2,),))}), False)
        for following in [((True,),), ([2],), [(2,)], (2,), ((2, 2),), ((2,), (2,)), ((3,),), (), None]:
            self.assertIs(is_refusal(book, *asked, {**cases, (1,): ("time", "a", 1, following)}), False)
        book = Book(Network([Station("a", 1, 9)]))
        asked = ("z", Curve([1]), ["a"], 1)
        self.assertIs(is_refusal(book, *asked, {(1,): ("safe",)}), False)

    def test_of_a_book_that_has_splits(self):
        chance = random.Random(245)
        for _ in range(30):
            book = drawn_plain(chance, 2)
            asked = ("z", curve(chance.choice(CURVES)), drawn_path(chance, book.network, 2), 9)
            told = searched(book, *asked)
            if told is not None and told[1] is not None:
                self.assertIs(is_refusal(book, *asked, told[0]), False)
                for vector in told[0]:
                    less = {key: result for key, result in told[0].items() if key != vector}
                    self.assertIs(is_refusal(book, *asked, less), False)

    def test_other_questions(self):
        for book, asked, cases in self.tables():
            name, new, path, within = asked
            plain = PlainCases(book, name, new, path, within + 1)
            same = all(plain.result(vector) == result for vector, result in cases.items())
            self.assertIs(is_refusal(book, name, new, path, within + 1, cases), same)

    def test_any_value(self):
        book, asked = one_station(capacity=0), ("z", Curve([1]), ["a"], 1)
        for value in NO_COUNTS + [0, "x", [((1,), ("slow", "z"))], ((1,),), {1: 2}, {(1,): None}, {None: None}]:
            self.assertIs(is_refusal(book, *asked, value), False)


if __name__ == "__main__":
    unittest.main()
