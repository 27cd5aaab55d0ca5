"""Consoles: each command and its result, what is no command, and the errors of the operations."""

import unittest

import dueways.errors as errors
from dueways.admission import admit
from dueways.blame import chain
from dueways.book import Book
from dueways.changes import end_stream
from dueways.console import Console
from dueways.curves import Curve
from dueways.network import Network, Station
from dueways.reserves import with_reserves
from dueways.runs import forced
from dueways.texts import book_text, load_book
from plain import NO_INTEGERS
from plain_machine import told_by
from test_changes import ONE

NETWORK = "station p 2 9\nstation q 3 20 fails\nstation r 1 20\nlink p q 2\nlink q p 0\nlink q r 1\n"


def console(text=NETWORK):
    return Console(load_book(text))


def done(*commands, text=NETWORK):
    """Return a console after some commands."""
    made = console(text)
    for command in commands:
        made.execute(command)
    return made


def state(one):
    """Return all that can be seen of a console."""
    machine = one.machine()
    book = machine.book()
    return told_by(machine), book_text(book), one.history(), [one.execute(command) for command in ("tick", "late", "text")]


class Case(unittest.TestCase):
    def says(self, one, *commands):
        """Check the results of commands, which are given with them."""
        for command, result in commands:
            with self.subTest(command):
                self.assertEqual(one.execute(command), result)

    def refuse(self, one, error, command, **told):
        before = state(one)
        with self.subTest(command):
            with self.assertRaises(error) as caught:
                one.execute(command)
            self.assertIs(type(caught.exception), error)
            for name, value in told.items():
                self.assertEqual(getattr(caught.exception, name), value)
        self.assertEqual(state(one), before)


class TestCommands(Case):
    def test_a_history(self):
        self.says(console(), ("tick", "0"), ("late", "0"), ("blame", ""), ("text", NETWORK), ("step 0", "0"),
                  ("admit x 2,2/2/1 9 p q", "1 1"), ("times x", "1 1"), ("hand x 3", "ok"), ("entered x", "0"),
                  ("step 2", "2"), ("entered x", "2"), ("arrived x", "0"), ("hand x 1", "ok"), ("hand x 4", "ok"),
                  ("step 1", "3"), ("entered x", "3"), ("step 3", "6"), ("arrived x", "3"), ("entered x", "4"),
                  ("reroute x 9 20 q r", "6 1 2"), ("times x", "1 2"), ("slow p 6 1", "ok"), ("slow q 9 4", "ok"),
                  ("end x", "ok"), ("step 1", "7"), ("tick", "7"), ("late", "0"), ("blame", ""))

    def test_admit(self):
        one = done("step 3")
        self.says(one, ("admit abcdefgh 1/1/1 3 p", "1"), ("admit b 2,2/2/1 9 q r", "1 2"), ("admit c 0/1/0 1 r", "1"))
        book = one.machine().book()
        self.assertEqual(book.lives_of("b"), [(3, None, ("q", "r"), (1, 2))])
        self.assertEqual([book.within_of("b"), book.curve_of("b")], [9, Curve([2, 2], period=2, gain=1)])
        self.assertEqual(one.history(), ["step 3", "admit abcdefgh 1/1/1 3 p", "admit b 2,2/2/1 9 q r",
                                         "admit c 0/1/0 1 r"])

    def test_end(self):
        one = done("admit x 1/1/1 9 p", "step 4", "hand x 5")
        self.says(one, ("end x", "ok"), ("end x", "ok"), ("step 2", "6"), ("entered x", "0"))
        self.assertEqual(one.machine().book().lives_of("x"), [(0, 4, ("p",), (1,))])
        self.assertEqual(one.machine().waiting("x"), 5)
        self.refuse(one, errors.InvalidTick, "end x", value=6)
        one = done("admit x 1/1/1 9 p")
        self.says(one, ("end x", "ok"))
        self.assertEqual(one.machine().book().lives_of("x"), [(0, 0, ("p",), (1,))])

    def test_reroute(self):
        one = done("admit x 1/1/1 20 p q", "admit y 1/1/1 9 r", "step 2")
        self.says(one, ("reroute x 3 3 r", "none"), ("times x", "1 1"), ("reroute x 2 2 p", "none"))
        self.assertEqual(one.history()[-1], "step 2")
        self.says(one, ("reroute x 3 4 p", "2 3"), ("times x", "3"), ("reroute x 30 2 q p", "2 1 2"))
        self.assertEqual(one.machine().book().lives_of("x"), [
            (0, 2, ("p", "q"), (1, 1)), (2, 2, ("p",), (3,)), (2, None, ("q", "p"), (1, 2))])
        self.assertEqual(one.machine().book().within_of("x"), 30)
        self.says(one, ("step 1", "3"))
        late = done("admit x 1/1/1 20 p q", "step 4")
        # It begins when its units no longer overtake the old ones, and those of the ticks in between wait.
        self.says(late, ("reroute x 1 9 q", "6 1"), ("hand x 2", "ok"), ("step 1", "5"), ("entered x", "0"),
                  ("step 2", "7"), ("entered x", "1"), ("step 1", "8"), ("entered x", "2"), ("arrived x", "2"))
        self.refuse(late, errors.InvalidTick, "reroute x 1 7 q", value=7)
        early = done("admit x 1/1/1 20 p q", "step 4", "reroute x 1 9 q")
        # The new life begins later than now.
        self.refuse(early, errors.InvalidTick, "reroute x 9 9 p", value=4)
        self.refuse(early, errors.InvalidTick, "end x", value=4)

    def test_slow(self):
        one = done("admit x 1/1/1 20 p", "step 4")
        self.says(one, ("slow p 4 1", "ok"), ("slow p 5 1", "ok"), ("slow q 1000 0", "ok"), ("slow r 4 20", "ok"))
        self.assertEqual(one.machine().book().supply_of("p").changes(), [(4, 1)])
        self.assertEqual(one.machine().book().supply_of("q").changes(), [(1000, 0)])
        self.assertEqual(len(one.history()), 6)
        self.refuse(one, errors.Overfull, "slow p 6 0", at_station="p", window=(6, 7))
        self.refuse(one, errors.InvalidTick, "slow p 4 3", value=4)
        self.refuse(one, errors.InvalidTick, "slow r 4 3", value=4)
        self.refuse(one, errors.InvalidTick, "slow p 3 3", value=3)
        self.refuse(one, errors.InvalidTick, "slow p 1001 3", value=1001)
        self.refuse(one, errors.InvalidCount, "slow p 6 21", value=21)
        self.refuse(console(), errors.InvalidTick, "slow p 0 3", value=0)
        self.says(console(), ("slow p 1 3", "ok"))

    def test_earlier_ticks(self):
        # A slow for an earlier tick: behind the station and the reserves, before the capacity.
        one = done("step 5")
        self.refuse(one, errors.UnknownStation, "slow x 3 30", value="x")
        self.refuse(one, errors.InvalidTick, "slow p 3 30", value=3)
        self.refuse(one, errors.InvalidTick, "slow p 0 30", value=0)
        self.refuse(one, errors.InvalidCount, "slow p 5 30", value=30)
        reserved = done("step 5", text=NETWORK + "stream x 9 1/1/1\nlife 0 - p:1\nreserve q:1\n")
        self.refuse(reserved, errors.UnknownStation, "slow x 3 30", value="x")
        self.refuse(reserved, errors.HasReserves, "slow p 3 30")
        self.refuse(reserved, errors.HasReserves, "slow p 7 3")

    def test_hand(self):
        one = done("admit x 1/1/1 9 p", "admit y 3/1/3 9 q")
        self.says(one, ("hand x 2", "ok"), ("hand y 1", "ok"), ("hand y 2", "ok"), ("hand x 0", "ok"), ("step 0", "0"))
        self.assertEqual(told_by(one.machine())["entered"], {"x": [], "y": []})
        self.says(one, ("step 3", "3"), ("entered y", "3"), ("entered x", "2"))
        self.assertEqual([one.machine().entered("x"), one.machine().entered("y")], [[1, 1, 0], [3, 0, 0]])
        self.says(one, ("hand x 999999999", "ok"), ("step 1", "4"))
        self.assertEqual([one.machine().waiting("x"), one.machine().sent_back("x")], [60, 999999999 - 61])

    def test_handed_in_before_another_command(self):
        one = done("admit x 1/1/1 9 p", "hand x 1", "admit y 1/1/1 9 q", "slow p 3 3", "hand y 1", "end y")
        self.says(one, ("tick", "0"), ("step 1", "1"), ("entered x", "1"), ("entered y", "0"))
        self.assertEqual(one.machine().waiting("y"), 1)

    def test_step(self):
        self.says(console(), ("step 1", "1"), ("step 0", "1"), ("step 250", "251"), ("tick", "251"))

    def test_fail(self):
        one = done("admit x 1/1/1 20 p q", "admit y 1/1/1 20 r", "hand x 1", "hand y 1", "step 1", "hand x 1", "step 1")
        self.says(one, ("arrived y", "1"), ("fail q", "2"), ("step 1", "3"), ("entered x", "2"), ("arrived x", "0"))
        self.assertEqual(one.machine().book().supply_of("q").changes(), [(2, 0)])
        self.assertEqual(one.machine().lost("x"), [0, 1])
        self.refuse(one, errors.NotPlain, "fail r")
        self.refuse(console(), errors.InvalidTick, "fail p", value=0)
        self.refuse(console(), errors.UnknownStation, "fail x", value="x")
        reserved = done("hand x 3", "step 1", text=NETWORK + "stream x 9 1/1/1\nlife 0 - p:1\nreserve q:1\n")
        self.says(reserved, ("hand x 2", "ok"), ("fail p", "0"), ("times x", "1"), ("step 5", "6"), ("entered x", "5"),
                  ("arrived x", "5"), ("late", "0"))
        self.assertEqual(reserved.machine().book().lives_of("x"), [(0, 1, ("p",), (1,)), (1, None, ("q",), (1,))])
        # A station that no stream passes: nothing is lost.
        self.says(done("step 1"), ("fail p", "0"), ("late", "0"), ("blame", ""))

    def test_blame(self):
        # Of a book that is not protected; the document does not say what is told here, so this is what is meant.
        book = Book(Network([Station("p", 1, 9, may_fail=True), Station("q", 1, 9)]))
        for name, station in [("x", "p"), ("y", "q")]:
            admit(book, name, ONE, [station], 9)
        book.put_reserve("x", (("q",), (1,)))
        one = Console(book)
        self.says(one, ("step 2", "2"), ("fail p", "0"), ("hand x 1", "ok"), ("hand y 1", "ok"), ("blame", ""),
                  ("step 2", "4"), ("late", "1"), ("blame", "book q 2 3"))
        self.assertEqual(chain(one.machine(), "q", "y", 0), [("q", "y", 0), ("book", "q", 2, 3)])

    def test_queries(self):
        one = done("admit x 1/1/1 20 p q", "hand x 3", "step 4")
        before = state(one)
        for _ in range(2):
            self.says(one, ("tick", "4"), ("entered x", "3"), ("arrived x", "1"), ("times x", "1 1"), ("late", "0"),
                      ("blame", ""), ("text", NETWORK + "stream x 20 1/1/1\nlife 0 - p:1 q:1\n"))
        self.assertEqual(state(one), before)
        self.says(one, ("step 1", "5"), ("arrived x", "2"))
        for word in ("entered", "arrived", "times"):
            self.refuse(one, errors.UnknownStream, f"{word} y", value="y")
            self.refuse(one, errors.UnknownStream, f"{word} p", value="p")

    def test_names_that_look_like_commands(self):
        text = "station none 2 9\nstation undo 3 20\nlink none undo 2\n"
        one = console(text)
        self.says(one, ("admit admit 1/1/1 9 none undo", "1 1"), ("admit step 1/1/1 9 undo", "1"), ("hand step 2", "ok"),
                  ("hand admit 1", "ok"), ("step 2", "2"), ("entered step", "2"), ("times admit", "1 1"), ("end step", "ok"),
                  ("reroute admit 9 9 undo", "2 3"), ("slow none 4 3", "ok"), ("arrived step", "2"), ("undo", "7"),
                  ("tick", "2"), ("times admit", "3"), ("undo", "6"), ("times admit", "1 1"))
        self.refuse(one, errors.UnknownStream, "end undo", value="undo")


class TestNoCommands(Case):
    def test_words(self):
        one = done("admit x 1/1/1 20 p q", "hand x 3", "step 2")
        right = ["admit z 1/1/1 20 p q", "end x", "reroute x 9 9 p", "slow p 9 1", "hand x 1", "step 1", "fail p", "undo",
                 "tick", "entered x", "arrived x", "times x", "late", "blame", "text"]
        wrong = ["", " ", "  ", "x", "1", "help", "run", "history", "machine", "admit", "end", "reroute", "slow", "hand",
                 "step", "fail", "entered", "arrived", "times", "admit z", "admit z 1/1/1", "admit z 1/1/1 20", "reroute x",
                 "reroute x 9", "reroute x 9 9", "slow p", "slow p 9", "hand x", "none", "ok", "tick\n", "tick\ntick"]
        for command in right:
            words = command.split(" ")
            wrong += [command + " ", " " + command, command.upper(), command.capitalize(), command[1:], command + "\n"]
            wrong += [" ".join(words[:at] + [""] + words[at:]) for at in range(len(words) + 1)]
            if words[0] not in ("admit", "reroute"):
                wrong += [command + " p", command + " 1"]
            else:
                wrong += [command + " 1", command + " P", command + " abcdefghi"]
        for command in wrong:
            self.refuse(one, errors.InvalidCommand, command, value=command)

    def test_words_of_each_kind(self):
        one = done("admit x 1/1/1 20 p q", "hand x 3", "step 2")
        names = ["X", "x1", "1", "abcdefghi", "-", "x-", "_", "x:1", "1/1/1"]
        numbers = ["-1", "+1", "01", "00", "x", "1.0", "1,0", "0x1", "1e1", "1234567890", "0000000001", "9" * 30, "1_0",
                   "9" * 5000]
        curves = ["1/1", "1", "x", "1/1/1/1", "01/1/1", "1/1/01", "1/1/-1", "2,1/1/1", "2001/1/0", "1/1/2001", "1/2/1",
                  "1/5/1", "1,1/1/0", "1,2/1/1", "1,,1/1/1", "1, 1/1/1", ",".join(["1"] * 23 + ["2", "2"]) + "/1/0",
                  "Curve([1])", "//", "1/1/1,", "9" * 3000 + "/1/1"]
        forms = [("admit {} 1/1/1 9 p", names), ("admit z {} 9 p", curves), ("admit z 1/1/1 {} p", numbers),
                 ("admit z 1/1/1 9 {}", names), ("admit z 1/1/1 9 p {} q", names), ("end {}", names),
                 ("reroute {} 9 9 p", names), ("reroute x {} 9 p", numbers), ("reroute x 9 {} p", numbers),
                 ("reroute x 9 9 {}", names), ("slow {} 9 1", names), ("slow p {} 1", numbers), ("slow p 9 {}", numbers),
                 ("hand {} 1", names), ("hand x {}", numbers), ("step {}", numbers), ("fail {}", names),
                 ("entered {}", names), ("arrived {}", names), ("times {}", names), ("undo {}", names), ("tick {}", names)]
        for form, words in forms:
            for word in words:
                command = form.format(word)
                self.refuse(one, errors.InvalidCommand, command, value=command)

    def test_other_values(self):
        one = done("admit x 1/1/1 20 p q")
        for value in [value for value in NO_INTEGERS if not isinstance(value, str)] + [0, 5, ["tick"], ("tick",), b"tick"]:
            before = state(one)
            with self.subTest(value), self.assertRaises(errors.InvalidCommand) as caught:
                one.execute(value)
            self.assertIs(caught.exception.value, value)
            self.assertEqual(state(one), before)
        with self.assertRaises(errors.InvalidCommand):
            one.execute(command="ticks")
        self.assertEqual(one.execute(command="tick"), "0")


class TestErrors(Case):
    def test_of_the_operations(self):
        one = done("admit x 1/1/1 20 p q", "hand x 3", "step 2", "hand x 1")
        self.refuse(one, errors.NameTaken, "admit x 1/1/1 9 p", taken="x")
        self.refuse(one, errors.NotGood, "admit z 1,3/1/1 9 p", first=1, second=1)
        self.refuse(one, errors.InvalidPath, "admit z 1/1/1 9 q q", position=1)
        self.refuse(one, errors.InvalidPath, "admit z 1/1/1 9 x", position=0)
        self.refuse(one, errors.InvalidPath, "admit z 1/1/1 9 p q p q p q", position=0)
        self.refuse(one, errors.InvalidPath, "admit z 1/1/1 9 r p", position=1)
        self.refuse(one, errors.InvalidTime, "admit z 1/1/1 101 p", value=101)
        self.refuse(one, errors.Refused, "admit z 9/1/9 9 p")
        with self.assertRaises(errors.Refused) as caught:
            one.execute("admit z 9/1/9 9 p")
        self.assertEqual([caught.exception.refusal.begin, caught.exception.refusal.path()], [2, ["p"]])
        self.refuse(one, errors.UnknownStream, "end z", value="z")
        self.refuse(one, errors.UnknownStream, "reroute z 9 9 p", value="z")
        self.refuse(one, errors.InvalidPath, "reroute x 9 9 p p", position=1)
        self.refuse(one, errors.InvalidTime, "reroute x 101 9 p", value=101)
        self.refuse(one, errors.InvalidTick, "reroute x 9 1 p", value=1)
        self.refuse(one, errors.InvalidTick, "reroute x 9 63 p", value=63)
        self.refuse(one, errors.UnknownStation, "slow x 9 1", value="x")
        self.refuse(one, errors.InvalidTick, "slow p 1 1", value=1)
        self.refuse(one, errors.Overfull, "slow p 9 0", at_station="p", window=(9, 10))
        self.refuse(one, errors.UnknownStream, "hand z 1", value="z")
        self.refuse(one, errors.UnknownStream, "hand p 1", value="p")
        self.refuse(one, errors.UnknownStation, "fail x", value="x")
        # What was handed in before is handed in all the same.
        self.says(one, ("step 1", "3"), ("entered x", "3"), ("step 1", "4"), ("entered x", "4"))

    def test_ten_streams(self):
        one = console()
        for name in "abcdefghij":
            one.execute(f"admit {name} 0/1/0 9 p")
        self.refuse(one, errors.TooMany, "admit k 0/1/0 9 p", limit=10)
        self.says(one, ("reroute a 9 0 p", "0 1"), ("reroute a 9 0 q", "0 1"), ("reroute a 9 0 p", "0 1"))
        self.refuse(one, errors.TooMany, "reroute a 9 0 p", limit=4)

    def test_reserves(self):
        book = Book(Network([Station("p", 1, 9, may_fail=True), Station("q", 1, 9)]))
        admit(book, "x", ONE, ["p"], 9)
        one = Console(with_reserves(book, {"x": (["q"], [2])}))
        for command in ("admit z 1/1/1 9 q", "end x", "reroute x 9 9 q", "slow p 9 1"):
            self.refuse(one, errors.HasReserves, command)
        self.says(one, ("hand x 9", "ok"), ("step 3", "3"), ("fail p", "0"), ("times x", "2"), ("step 3", "6"),
                  ("entered x", "6"), ("arrived x", "5"), ("end x", "ok"),
                  ("admit z 1/1/1 9 q", "1"))

    def test_books_that_are_not_safe(self):
        book = forced(Book(Network([Station("p", 1, 9)])), "x", Curve([2], gain=2), ["p"], [1])
        with self.assertRaises(errors.InvalidBook):
            Console(book)
        end_stream(book, "x", 0)
        self.assertEqual(Console(book=book).execute("tick"), "0")
        crowd = forced(Book(Network([Station("p", 9, 1)])), "x", Curve([2], gain=2), ["p"], [1])
        with self.assertRaises(errors.InvalidBook):
            Console(crowd)


if __name__ == "__main__":
    unittest.main()
