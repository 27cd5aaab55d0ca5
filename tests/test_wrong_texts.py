"""Texts that are wrong: for each kind of line each way, and many that are drawn."""

import random
import unittest

from dueways.texts import book_text, load_book, load_network, network_text
from made import any_book, drawn_network, safe_book
from plain_texts import wrong_book_line, wrong_network_line
from test_reserves import drawn_reserves, put
from test_texts import BOOK, NETWORK, PLAIN, Case

NO_NUMBERS = ["", "-1", "+1", "01", "00", "1.0", "x", "0x1", "1e1", "1_0", " 1", "1 ", "-", "None", "True", "1,", "1:1"]


def too_great(most):
    return [str(most + 1), "9" * 10, "1" + "0" * 18]


class TestNetworks(Case):
    def check(self, text, line):
        """Check that a network's text is wrong in a line, also as the beginning of a book's."""
        self.assertEqual(wrong_network_line(text), line)
        self.refuse(load_network, text, line)
        self.refuse(load_book, text, line)
        self.refuse(load_book, text + "stream x 9 1/1/1\nlife 0 - p:1\n", line)

    def test_words_of_a_station(self):
        for line in ["station", "station q", "station q 1", "station q 1 2 3", "station q 1 2 fails fails", "station q 1 2 fail",
                     "station q 1 2 Fails", "station  q 1 2", "station q  1 2", "station q 1 2 ", " station q 1 2",
                     "station q 1 2  fails", "station q 1 2 fails ", "Station q 1 2", "stations q 1 2", "q 1 2", " ", "",
                     "station fails 1 2 fails x", "station q fails", "station\tq 1 2", "station Q 1 2", "station q1 1 2",
                     "station abcdefghi 1 2", "station  1 2", "station - 1 2", "station p 1 2", "station q_ 1 2"]:
            self.check(f"station p 2 9\n{line}\n", 2)
            self.check(f"{line}\n" if line != "station p 1 2" else "station p\n", 1)

    def test_numbers_of_a_station(self):
        for number in NO_NUMBERS + too_great(20):
            self.check(f"station p 2 9\nstation q {number} 2\n", 2)
        for number in NO_NUMBERS + too_great(200):
            self.check(f"station p 2 9\nstation q 1 {number}\n", 2)
        told = load_network("station p 20 200 fails\nstation q 0 0\n")
        self.assertEqual([told.find("p").capacity, told.find("p").room, told.find("q").room], [20, 200, 0])

    def test_eleven_stations(self):
        text = "".join(f"station {name} 1 1\n" for name in "abcdefghij")
        self.assertEqual(len(load_network(text).names()), 10)
        self.assertEqual(load_book(text).names(), [])
        self.check(text + "station k 1 1\n", 11)

    def test_words_of_a_link(self):
        for line in ["link", "link p", "link p q", "link p q 1 1", "link p  q 1", "link p q 1 ", "links p q 1", "link p p 1",
                     "link p r 1", "link r p 1", "link P q 1", "link p q 1 fails", "Link p q 1", "link - q 1"]:
            self.check(f"station p 2 9\nstation q 3 20\n{line}\n", 3)
        for number in NO_NUMBERS + too_great(10):
            self.check(f"station p 2 9\nstation q 3 20\nlink p q {number}\n", 3)

    def test_sequence(self):
        begin = "station p 2 9\nstation q 3 20\nstation r 3 20\n"
        for links, line in [("link q p 1\nlink p q 1\n", 5), ("link p q 1\nlink p q 1\n", 5), ("link p q 1\nlink p q 2\n", 5),
                            ("link p r 1\nlink p q 2\n", 5), ("link p q 1\nlink q p 1\nlink p r 1\n", 6),
                            ("link p q 1\nstation s 1 1\n", 5), ("link p q 2\nlink p q 1\n", 5)]:
            self.check(begin + links, line)
        self.check("link p q 1\n" + begin, 1)
        told = load_network(begin + "link p q 10\nlink p r 0\nlink q p 1\n")
        self.assertEqual(told.links(), [("p", "q", 10), ("p", "r", 0), ("q", "p", 1)])
        # Sorted by names, not by the sequence of the stations.
        told = load_network("station q 1 1\nstation p 1 1\nlink p q 1\nlink q p 1\n")
        self.assertEqual(told.names(), ["q", "p"])


class TestBooks(Case):
    def check(self, text, line):
        self.assertEqual(wrong_book_line(text), line)
        self.refuse(load_book, text, line)

    def right(self, text):
        self.assertIsNone(wrong_book_line(text))
        self.assertEqual(book_text(load_book(text)), text)

    def test_words_of_a_stream(self):
        for line in ["stream", "stream z", "stream z 9", "stream z 9 1/1/1 1", "stream  z 9 1/1/1", "stream z 9 1/1/1 ",
                     "stream Z 9 1/1/1", "stream abcdefghi 9 1/1/1", "stream x 9 1/1/1", "stream z1 9 1/1/1",
                     "stream  9 1/1/1", "streams z 9 1/1/1", "stream z 9 1 1 1", "life", "z 9 1/1/1", ""]:
            self.check(PLAIN + line + "\nlife 0 - p:1\n", 10)
        for number in NO_NUMBERS + too_great(100) + ["0"]:
            self.check(PLAIN + f"stream z {number} 1/1/0\nlife 0 - p:1\n", 10)
        # A stream may be called as a station, or as the first word of a line.
        for name in ("p", "stream", "life", "fails", "a", "abcdefgh"):
            self.right(NETWORK + f"stream {name} 1 0/1/0\nlife 0 - p:1\n")
        self.right(NETWORK + "stream z 100 0/1/0\nlife 0 - p:1\n")

    def test_curves(self):
        for curve in ["1/1", "1/1/1/1", "1", "", "/", "//", "1//1", "/1/1", "1/1/", "1,/1/1", ",1/1/1", "1,,1/1/1", "1;1/1/1",
                      "01/1/1", "1/01/1", "1/1/01", "+1/1/1", "-1/1/1", "1/1/-1", "2,1/1/1", "2001/1/0", "1/1/2001",
                      "1/2/1", "1,1/5/1", "1/0/1", "1/13/1", "1,2/1/1", "1,1/2/0", "2,2,3/1/1", "1,3/1/1", "1,2,4/1/1",
                      "0/1/1", "x/1/1", "1/1/x", "[1]/1/1", "1, 1/2/1", "1/1/1,", ",".join(["1"] * 25) + "/1/0",
                      "1/1/" + "9" * 50, "9" * 5000 + "/1/1", "1,1/1/0", "1,1,2,2/4/2"]:
            self.check(PLAIN + f"stream z 9 {curve}\nlife 0 - p:1\n", 10)
        self.right(NETWORK + "stream z 9 0/1/0\nlife 0 - p:9\n")
        self.right("station p 20 200\nstream z 9 2,2,2,2/4/2\nlife 0 - p:9\n")
        self.right("station p 20 200\nstream z 9 " + ",".join(["1"] * 23 + ["2"]) + "/1/0\nlife 0 - p:9\n")
        self.right("station p 20 200\nstream z 12 200/1/0\nlife 0 - p:12\n")

    def test_words_of_a_life(self):
        for line in ["life", "life 0", "life 0 -", "life 0 - ", "life 0 -  p:1", "life  0 - p:1", "life 0 - p:1 ", "life 0 - p",
                     "life 0 - p:", "life 0 - :1", "life 0 - p:1:1", "life 0 - p1", "life 0 - p:1,q:1", "life 0 - P:1",
                     "life 0 - r:1", "life 0 - x:1", "life 0 - p:1 p:1", "life 0 - q:1 p:1 q:1", "lives 0 - p:1",
                     "life - 0 p:1", "life - - p:1", "life 0 -- p:1", "life 0 None p:1", "p:1", "", "stream y 9 1/1/1",
                     "reserve p:1", "capacity p 5 3"]:
            self.check(NETWORK + f"stream x 9 0/1/0\n{line}\n", 6)
        for number in NO_NUMBERS + too_great(1000):
            self.check(NETWORK + f"stream x 9 0/1/0\nlife {number} - p:1\n", 6)
            if number != "-":
                self.check(NETWORK + f"stream x 9 0/1/0\nlife 0 {number} p:1\n", 6)
        for number in NO_NUMBERS + too_great(12) + ["0"]:
            self.check(NETWORK + f"stream x 99 0/1/0\nlife 0 - p:{number}\n", 6)
        self.right(NETWORK + "stream x 30 0/1/0\nlife 1000 1000 p:12 q:12\n")
        self.check("station p 1 1\nstation q 1 1\nlink p q 1\nstream x 9 0/1/0\nlife 0 - q:1 p:1\n", 5)
        six = "".join(f"station {name} 1 1\n" for name in "abcdef")
        six += "".join(f"link {one} {two} 0\n" for one, two in zip("abcde", "bcdef"))
        self.right(six + "stream x 9 0/1/0\nlife 0 - a:1 b:1 c:1 d:1 e:1\n")
        self.check(six + "stream x 9 0/1/0\nlife 0 - a:1 b:1 c:1 d:1 e:1 f:1\n", 13)

    def test_lives_one_after_the_other(self):
        begin = NETWORK + "stream x 9 0/1/0\n"
        for lives, line in [("life 3 2 p:1\n", 6), ("life 0 - p:1\nlife 5 - p:1\n", 7), ("life 0 4 p:1\nlife 3 - p:1\n", 7),
                            ("life 0 4 p:1\nlife 4 3 p:1\n", 7), ("life 5 9 p:1\nlife 0 4 p:1\n", 7),
                            ("life 0 1 p:1\n" * 2, 7), ("life 1 1 p:1\n" * 5, 10)]:
            self.check(begin + lives, line)
        self.right(begin + "life 1 1 p:1\n" * 4)
        self.right(begin + "life 0 4 p:1\nlife 4 4 q:1\nlife 4 9 p:1\nlife 11 - q:1\n")

    def test_totals_and_withins(self):
        begin = NETWORK + "stream x 4 0/1/0\n"
        slow = "life {} {} p:2 q:1\n"
        self.right(begin + slow.format(0, "-").replace("p:2", "p:1"))
        self.check(begin + slow.format(0, "-"), 6)
        self.check(begin + slow.format(0, 3), 7)
        self.right(begin + slow.format(0, 3) + "life 3 - p:4\n")
        self.right(begin + slow.format(0, 3) + slow.format(3, 3) + slow.format(4, 1000) + "life 1000 - p:4\n")
        self.check(begin + slow.format(0, 3) * 1 + slow.format(3, 3) + slow.format(4, 9) + slow.format(9, 9), 9)
        self.check(begin + slow.format(0, 3) + slow.format(3, 3) + slow.format(4, 9) + slow.format(9, "-"), 9)
        self.check(begin + slow.format(0, 3) + slow.format(3, 3) + slow.format(4, 9), 9)
        # Behind a life that takes too long only a life may follow.
        for line in ["stream y 9 0/1/0", "reserve p:1", "capacity p 5 3", "station z 1 1", "link p q 1", ""]:
            self.check(begin + slow.format(0, 3) + line + "\n", 7)

    def test_words_of_a_reserve(self):
        begin = NETWORK + "stream x 4 0/1/0\nlife 0 - p:1\n"
        for line in ["reserve", "reserve ", "reserve p", "reserve p:0", "reserve p:13", "reserve p:01", "reserve p:5",
                     "reserve p:2 q:1", "reserve q:1 p:4", "reserve r:1", "reserve p:1 p:1", "reserve p:1 ", "reserve  p:1",
                     "reserve 0 - p:1", "reserves p:1", "reserve p:1 q", "reserve -"]:
            self.check(begin + line + "\n", 7)
        self.right(begin + "reserve p:4\n")
        self.right(begin + "reserve p:1 q:1\n")
        self.check(begin + "reserve p:1\nreserve p:1\n", 8)
        self.check(NETWORK + "reserve p:1\n", 5)
        self.check(begin + "reserve p:1\nlife 0 - p:1\n", 8)

    def test_reserves_in_books_that_are_not_plain(self):
        begin = NETWORK + "stream x 9 0/1/0\n"
        for lives in ["life 1 - p:1\n", "life 0 5 p:1\n", "life 0 0 p:1\n", "life 0 5 p:1\nlife 5 - p:1\n"]:
            many = 5 + lives.count("\n")
            self.check(begin + lives + "reserve p:1\n", many + 1)
            # The book cannot be plain any more, so no later stream can have a reserve either.
            self.check(begin + lives + "stream y 9 0/1/0\nlife 0 - p:1\nreserve p:1\n", many + 3)
        after = begin + "life 0 - p:1\nreserve q:1\nstream y 9 0/1/0\n"
        self.right(after + "life 0 - p:1\n")
        self.right(after + "life 0 - p:1\nreserve q:9\nstream z 9 0/1/0\nlife 0 - q:1\n")
        for life in ["life 1 - p:1\n", "life 0 5 p:1\n", "life 0 0 p:1\n", "life 0 5 p:9 q:9\n"]:
            self.check(after + life, 9)
        self.check(after + "life 0 - p:1\ncapacity p 5 3\n", 10)
        self.check(begin + "life 0 - p:1\nreserve q:1\ncapacity p 5 3\n", 8)

    def test_words_of_a_capacity(self):
        for line in ["capacity", "capacity p", "capacity p 5", "capacity p 5 4 3", "capacity p  5 4", "capacity p 5 4 ",
                     "capacity r 5 4", "capacity x 5 4", "capacity P 5 4", "capacity 5 4", "capacities p 5 4", "capacity  5 4"]:
            self.check(NETWORK + line + "\n", 5)
        for number in NO_NUMBERS + too_great(1000) + ["0"]:
            self.check(NETWORK + f"capacity p {number} 4\n", 5)
            self.check(NETWORK + f"capacity q {number} 4\n", 5)
        for number in NO_NUMBERS + too_great(20):
            self.check(NETWORK + f"capacity p 5 {number}\n", 5)
        self.right(NETWORK + "capacity p 1 0\ncapacity p 1000 20\n")

    def test_changes_in_sequence(self):
        for changes, line in [("capacity p 5 4\ncapacity p 5 3\n", 6), ("capacity p 5 4\ncapacity p 4 3\n", 6),
                              ("capacity q 5 4\ncapacity p 6 3\n", 6), ("capacity p 5 2\n", 5),
                              ("capacity p 5 4\ncapacity p 6 4\n", 6), ("capacity q 9 3\n", 5),
                              ("capacity p 5 4\nstream x 9 0/1/0\nlife 0 - p:1\n", 6), ("capacity p 5 4\nlink q p 1\n", 6),
                              ("capacity p 5 4\nreserve p:1\n", 6), ("capacity p 5 4\nlife 0 - p:1\n", 6),
                              ("capacity p 5 4\ncapacity p 6 2\ncapacity p 7 2\n", 7)]:
            self.check(NETWORK + changes, line)
        self.right(NETWORK + "capacity p 5 4\ncapacity p 6 2\ncapacity q 1 4\n")
        self.right(BOOK)

    def test_last_lines(self):
        for text in (BOOK, PLAIN, NETWORK):
            lines = text.split("\n")[:-1]
            self.check("\n".join(lines), len(lines))
            self.check("\n".join(lines) + " ", len(lines))
            self.check(text + "\n", len(lines) + 1)
            self.check(text + " \n", len(lines) + 1)
            self.check(text + "x", len(lines) + 1)
            self.check(text.replace("\n", "\n\n"), 2)
            self.check(text.replace("\n", " "), 1)


class TestDrawn(Case):
    def mutated(self, chance, text):
        """Return a text in which something small is changed."""
        lines = text.split("\n")
        place = chance.randrange(len(lines))
        words = lines[place].split(" ")
        at = chance.randrange(len(words))
        kind = chance.randint(0, 11)
        if kind == 0:
            del lines[place]
        elif kind == 1:
            lines.insert(chance.randrange(len(lines)), lines[place])
        elif kind == 2:
            other = chance.randrange(len(lines))
            lines[place], lines[other] = lines[other], lines[place]
        elif kind == 3:
            del words[at]
        elif kind == 4:
            words.insert(at, chance.choice(words + ["", "-", "0", "fails", "p:1"]))
        elif kind in (5, 6, 7) and words[at].isdigit():
            words[at] = str(int(words[at]) + chance.choice([-2, -1, 1, 2, 1000]))
        elif kind == 8:
            words[at] = chance.choice(["0", "-", "p", "q", "r", "x", "1/1/0", "p:1", "q:12", "03", "life", "stream"])
        elif kind == 9:
            words[at] = words[at].upper() if chance.randint(0, 1) else words[at] + chance.choice("0:,a ")
        elif kind == 10:
            return text[:chance.randrange(len(text) + 1)]
        else:
            signs = list(text)
            signs[chance.randrange(len(signs))] = chance.choice(" \n0129-:,/apq")
            return "".join(signs)
        if kind > 2:
            lines[place] = " ".join(words)
        return "\n".join(lines)

    def test_networks(self):
        chance = random.Random(311)
        wrong = 0
        for _ in range(1500):
            text = self.mutated(chance, network_text(drawn_network(chance, many=chance.randint(1, 3))))
            line = wrong_network_line(text)
            if line is None:
                self.assertEqual(network_text(load_network(text)), text)
            else:
                self.refuse(load_network, text, line)
                wrong += 1
        self.assertGreater(wrong, 900)

    def test_books(self):
        chance = random.Random(312)
        right, wrong = 0, 0
        for number in range(3000):
            book = any_book(chance, many=2, stations=2) if number % 3 else safe_book(chance, many=2, stations=2)
            for name in book.names():
                book.put_stream(name, book.curve_of(name), chance.choice([14, 100]), book.lives_of(name))
            if number % 3 == 0:
                book = put(book, drawn_reserves(chance, book))
            text = book_text(book)
            for _ in range(chance.randint(1, 2)):
                text = self.mutated(chance, text)
            line = wrong_book_line(text)
            if line is None:
                right += 1
                try:
                    told = load_book(text)
                except Exception as error:
                    # Right by its lines, so the book itself is not safe, or not protected.
                    self.assertEqual((type(error).__name__, error.line), ("InvalidText", text.count("\n")))
                else:
                    self.assertEqual(book_text(told), text)
                    self.assertTrue(told.is_safe())
            else:
                wrong += 1
                self.refuse(load_book, text, line)
        self.assertGreater(min(right, wrong), 200)


if __name__ == "__main__":
    unittest.main()
