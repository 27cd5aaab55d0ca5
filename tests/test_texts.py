"""Texts of networks and books, written and read, and the lines in which they are wrong."""

import random
import unittest

import dueways.errors as errors
from dueways.admission import admit
from dueways.book import Book
from dueways.changes import change_capacity, end_stream
from dueways.curves import Curve
from dueways.network import Network, Station
from dueways.reserves import find_danger, with_reserves
from dueways.runs import forced
from dueways.texts import book_text, load_book, load_network, network_text
from made import any_book, drawn_network, safe_book
from plain import NO_INTEGERS
from plain_texts import is_book, is_network, wrong_book_line, wrong_network_line
from test_admission import drawn_books
from test_changes import ONE
from test_reserves import drawn_reserves, drawn_tight, put

NETWORK = "station p 2 9\nstation q 3 20 fails\nlink p q 2\nlink q p 0\n"
BOOK = NETWORK + "stream x 9 2,2/2/1\nlife 0 4 p:1 q:2\nlife 4 - q:3\nstream y 3 1/1/1\nlife 2 - p:2\ncapacity p 5 3\n"
PLAIN = NETWORK + "stream x 9 2,2/2/1\nlife 0 - p:2\nreserve q:2\nstream y 3 1/1/1\nlife 0 - q:3\n"
STRANGE = [value for value in NO_INTEGERS if not isinstance(value, str)] + [0, ["station p 1 1\n"]]


class Case(unittest.TestCase):
    def refuse(self, load, text, line):
        with self.subTest(text), self.assertRaises(errors.InvalidText) as caught:
            load(text)
        self.assertIs(type(caught.exception), errors.InvalidText)
        self.assertEqual(caught.exception.line, line)


class TestWriting(Case):
    def test_networks(self):
        network = Network([Station("q", 20, 200, may_fail=True), Station("p", 0, 0), Station("abcdefgh", 1, 2)],
                          [("q", "p", 0), ("p", "q", 10), ("abcdefgh", "q", 3), ("q", "abcdefgh", 1)])
        self.assertEqual(network_text(network=network),
                         "station q 20 200 fails\nstation p 0 0\nstation abcdefgh 1 2\n"
                         "link abcdefgh q 3\nlink p q 10\nlink q abcdefgh 1\nlink q p 0\n")
        self.assertEqual(network_text(Network([Station("p", 1, 2)])), "station p 1 2\n")

    def test_books_line_by_line(self):
        network = load_network(NETWORK)
        book = Book(network)
        self.assertEqual(book_text(book), NETWORK)
        admit(book, "x", Curve([2, 2], period=2, gain=1), ["p", "q"], 9, split=[1, 2])
        book.put_stream("x", book.curve_of("x"), 9, [(0, 4, ("p", "q"), (1, 2)), (4, None, ("q",), (3,))])
        admit(book, "y", Curve([1, 2, 3], gain=1), ["p"], 3, begin=2, split=[2])
        change_capacity(book, "p", 5, 3)
        self.assertEqual(book_text(book=book), BOOK)
        change_capacity(book, "q", 2, 20)
        change_capacity(book, "q", 1000, 19)
        change_capacity(book, "p", 6, 20)
        end_stream(book, "y", 2)
        self.assertEqual(book_text(book), BOOK.replace("life 2 -", "life 2 2") +
                         "capacity p 6 20\ncapacity q 2 20\ncapacity q 1000 19\n")

    def test_reserves(self):
        book = Book(load_network(NETWORK))
        admit(book, "x", Curve([2, 2], period=2, gain=1), ["p"], 9, split=[2])
        admit(book, "y", ONE, ["q"], 3, split=[3])
        book = with_reserves(book, {"x": (["q"], [2])})
        self.assertEqual(book_text(book), PLAIN)
        self.assertTrue(load_book(PLAIN) == book)
        book = put(book, {"y": (["p", "q"], [1, 12])})
        self.assertEqual(book_text(book), PLAIN + "reserve p:1 q:12\n")

    def test_plainly(self):
        chance = random.Random(301)
        for number in range(150):
            if number % 3:
                book = any_book(chance, changes=bool(number % 2))
                for name in book.names():
                    book.put_stream(name, book.curve_of(name), 100, book.lives_of(name))
            else:
                book = safe_book(chance, many=4)
                book = put(book, drawn_reserves(chance, book))
            lines = book_text(book).split("\n")
            self.assertEqual(lines.pop(), "")
            self.assertTrue(is_book(lines))
            many = len(network_text(book.network).split("\n")) - 1
            self.assertTrue(is_network(lines[:many]))
            self.assertEqual(lines[:many], network_text(book.network).split("\n")[:-1])
            expected = []
            for name in book.names():
                expected.append(["stream", name, str(book.within_of(name)), str(book.curve_of(name))])
                for begin, end, path, split in book.lives_of(name):
                    expected.append(["life", str(begin), str(end) if end is not None else "-"])
                    expected[-1] += [f"{station}:{time}" for station, time in zip(path, split)]
                if book.reserve_of(name):
                    expected.append(["reserve"] + [f"{one}:{time}" for one, time in zip(*book.reserve_of(name))])
            for station in book.network.names():
                expected += [["capacity", station, str(tick), str(capacity)]
                             for tick, capacity in book.supply_of(station).changes()]
            self.assertEqual([line.split(" ") for line in lines[many:]], expected)
            self.assertEqual(book_text(book), book_text(book.clone()))


class TestReading(Case):
    def test_networks(self):
        chance = random.Random(302)
        for _ in range(50):
            network = drawn_network(chance, many=chance.randint(1, 5))
            told = load_network(text=network_text(network))
            self.assertTrue(told == network)
            self.assertEqual(network_text(told), network_text(network))
            self.assertEqual(told.links(), network.links())

    def test_books(self):
        chance = random.Random(303)
        found = {"safe": 0, "not": 0, "exposed": 0, "protected": 0}
        for number in range(160):
            if number % 2:
                book = drawn_books(1, chance.randint(0, 10 ** 6))[0] if number % 4 == 1 else any_book(chance, many=2)
                for name in book.names():
                    book.put_stream(name, book.curve_of(name), 100, book.lives_of(name))
                kind = "safe" if book.is_safe() else "not"
            else:
                book = drawn_tight(chance, 2)
                reserves = drawn_reserves(chance, book, 6)
                if not reserves:
                    continue
                book = put(book, reserves)
                kind = "protected" if find_danger(book) is None else "exposed"
            found[kind] += 1
            text = book_text(book)
            if kind in ("safe", "protected"):
                told = load_book(text=text)
                self.assertTrue(told == book)
                self.assertEqual(book_text(told), text)
                self.assertEqual(told.names(), book.names())
                for name in book.names():
                    self.assertEqual(told.lives_of(name), book.lives_of(name))
                    self.assertEqual(told.reserve_of(name), book.reserve_of(name))
                told.put_stream("z", ONE, 1, [(0, None, (book.network.names()[0],), (1,))])
                self.assertTrue(load_book(text) == book)
            else:
                self.refuse(load_book, text, text.count("\n"))
        self.assertGreater(min(found.values()), 3)

    def test_more_than_ten_streams(self):
        text = "station p 20 200\n"
        for number in range(26):
            text += f"stream {chr(97 + number)}x 5 1/1/0\nlife 0 - p:2\n"
        book = load_book(text)
        self.assertEqual([len(book), book.names()[25]], [26, "zx"])
        self.assertEqual(book_text(book), text)
        book = Book(Network([Station("p", 20, 200)]))
        for number in range(10):
            book = forced(book, "abcdefghij"[number], ONE, ["p"], [1])
        self.assertTrue(load_book(book_text(book)) == book)

    def test_exactly_one_line_is_named(self):
        self.assertTrue(load_book(BOOK).is_safe())
        for load in (load_network, load_book):
            for value in STRANGE:
                self.refuse(load, value, 0)
            self.refuse(load, "", 1)
            self.refuse(load, "\n", 1)
            self.refuse(load, "station p 2 9", 1)
            self.refuse(load, "station p 2 9\nstation q 3 2", 2)
            self.refuse(load, "station p 2 9\n\n", 2)
        self.refuse(load_network, BOOK, 5)
        self.refuse(load_network, NETWORK + "capacity p 5 3\n", 5)

    def test_a_text_that_ends_too_early(self):
        for end in range(len(BOOK)):
            text = BOOK[:end]
            line = wrong_book_line(text)
            if line is None:
                self.assertTrue(load_book(text).is_safe())
            else:
                self.refuse(load_book, text, line)
        lines = BOOK.split("\n")[:-1]
        early = [many for many in range(len(lines)) if wrong_book_line("".join(f"{one}\n" for one in lines[:many]))]
        self.assertEqual(early, [0, 5, 8])
        for many in early:
            self.refuse(load_book, "".join(f"{one}\n" for one in lines[:many]), many + 1)

    def test_books_that_are_not_safe(self):
        text = NETWORK + "stream x 9 5/1/5\nlife 0 - p:2\nstream y 9 1/1/1\nlife 0 - q:2\n"
        self.refuse(load_book, text, 8)
        self.refuse(load_book, text + "capacity q 5 7\n", 9)
        # Another line that is wrong counts first.
        self.refuse(load_book, text + "capacity q 5 3\n", 9)
        self.refuse(load_book, text + "capacity q 5 7\ncapacity q 5 8\ncapacity q 6 9\n", 10)
        exposed = PLAIN.replace("q 3 20 fails", "q 1 20").replace("p 2 9", "p 2 9 fails")
        self.refuse(load_book, exposed, 9)
        self.refuse(load_book, exposed + "stream z 9 0/1/0\nlife 0 - p:1\n", 11)
        self.assertTrue(load_book(exposed.replace("p 2 9 fails", "p 2 9")).has_reserves())


if __name__ == "__main__":
    unittest.main()
