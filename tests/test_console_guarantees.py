"""The guarantees of point 4 once more, over histories of commands in consoles."""

import random
import unittest

import dueways.errors as errors
from dueways.cases import is_refusal, split_all
from dueways.changes import earliest
from dueways.console import Console
from dueways.runs import first_trouble, forced, play
from dueways.texts import book_text, load_book
from made import CURVES, curve, drawn_path, safe_book
from plain_changes import rerouted
from plain_machine import told_by

QUERIES = ["tick", "late", "blame", "text"]


def tried(one, command):
    """Return the result of a command, or None if it raises an error."""
    try:
        return one.execute(command)
    except (errors.DueError, RuntimeError, LookupError, ArithmeticError):
        return None


def drawn_commands(chance, book, many):
    """Return some commands that may change a book."""
    found = []
    for _ in range(many):
        name, station = chance.choice("abcdxy"), chance.choice(book.network.names())
        path = " ".join(drawn_path(chance, book.network))
        found.append(chance.choice([
            f"admit {name} {curve(chance.choice(CURVES))} {chance.choice([6, 12, 40])} {path}", f"hand {name} {chance.randint(1, 4)}",
            f"hand {name} {chance.randint(1, 4)}", f"step {chance.randint(0, 3)}", f"end {name}", "undo",
            f"reroute {name} 20 {chance.randint(0, 30)} {path}", f"slow {station} {chance.randint(1, 30)} {chance.randint(0, 4)}"]))
    return found


class TestNoEffect(unittest.TestCase):
    def test_queries(self):
        chance = random.Random(341)
        for _ in range(15):
            book = safe_book(chance, many=3)
            one, two = Console(book), Console(book)
            for command in drawn_commands(chance, book, 30):
                self.assertEqual(tried(one, command), tried(two, command))
                for _ in range(3):
                    query = chance.choice(QUERIES + [f"{word} {chance.choice('abcdxy')}" for word in ("entered", "times")])
                    tried(two, query)
                    two.machine().step()
                    two.history().clear()
            self.assertEqual(told_by(one.machine()), told_by(two.machine()))
            self.assertEqual(one.history(), two.history())

    def test_other_senders(self):
        chance = random.Random(342)
        for _ in range(25):
            book = safe_book(chance, many=4)
            if len(book) < 2:
                continue
            one, two, name = Console(book), Console(book), chance.choice(book.names())
            for _ in range(14):
                for other in book.names():
                    units = chance.randint(0, 4)
                    two.execute(f"hand {other} {units}")
                    if other == name:
                        one.execute(f"hand {other} {units}")
                for each in (one, two):
                    each.execute("step 1")
            for ask in ("entered", "arrivals", "waiting", "sent_back"):
                self.assertEqual(getattr(one.machine(), ask)(name), getattr(two.machine(), ask)(name))

    def test_undone_commands(self):
        chance = random.Random(343)
        for _ in range(15):
            book = safe_book(chance, many=3)
            one, two = Console(book), Console(book)
            for command in drawn_commands(chance, book, 20):
                if command == "undo":
                    continue
                self.assertEqual(tried(one, command), tried(two, command))
                many = len(two.history())
                for other in drawn_commands(chance, book, 3):
                    if other != "undo":
                        tried(two, other)
                while len(two.history()) > many:
                    two.execute("undo")
            self.assertEqual(told_by(one.machine()), told_by(two.machine()))
            self.assertTrue(one.machine().book() == two.machine().book())


class TestExactTicks(unittest.TestCase):
    def test_streams(self):
        # A stream that is asked for in each tick is admitted at the tick that earliest tells.
        chance = random.Random(344)
        waited = 0
        for _ in range(60):
            book = safe_book(chance, many=3)
            one = Console(book)
            if book.names():
                one.execute("step 2")
                one.execute(f"end {book.names()[0]}")
            new, path = curve(chance.choice(CURVES)), drawn_path(chance, book.network, 2)
            now = one.machine().book()
            tick, refusals = earliest(now, "z", new, path, 6, begin=one.machine().tick, until=one.machine().tick + 5)
            for refusal in refusals:
                with self.assertRaises(errors.Refused) as caught:
                    one.execute(f"admit z {new} 6 {' '.join(path)}")
                self.assertEqual(caught.exception.refusal.begin, refusal.begin)
                self.assertEqual(caught.exception.refusal.table(), refusal.table())
                one.execute("step 1")
            if tick is not None:
                one.execute(f"admit z {new} 6 {' '.join(path)}")
                self.assertEqual(one.machine().book().lives_of("z")[0][0], tick)
                waited += len(refusals) > 0
        self.assertGreater(waited, 1)

    def test_reroutes(self):
        chance = random.Random(345)
        told = []
        for _ in range(30):
            one = Console(safe_book(chance, many=3))
            book = one.machine().book()
            if not book.names():
                continue
            one.execute(f"step {chance.randint(0, 5)}")
            name, path = chance.choice(book.names()), drawn_path(chance, book.network, 2)
            tick, within = one.machine().tick, chance.choice([3, 8, 20])
            expected = rerouted(book, name, path, within, tick, tick + 4)
            result = one.execute(f"reroute {name} {within} {tick + 4} {' '.join(path)}")
            self.assertEqual(result, "none" if expected is None else
                             " ".join(map(str, [expected[0], *expected[1]])))
            told.append(result == "none")
        self.assertEqual(set(told), {True, False})


class TestCauseAndSplits(unittest.TestCase):
    def test_refused_streams(self):
        chance = random.Random(346)
        found = {"split": 0, "none": 0}
        for _ in range(120):
            book = safe_book(chance, many=3)
            new, path = curve(chance.choice(CURVES)), drawn_path(chance, book.network, 2)
            one = Console(book)
            try:
                one.execute(f"admit z {new} 5 {' '.join(path)}")
                continue
            except errors.Refused as refused:
                refusal = refused.refusal
            # The cause: there is a run in which a unit is late, or a station has too few places.
            split = [1] * len(path)
            links = sum(book.network.link(*ends) for ends in zip(path, path[1:]))
            if links + len(path) <= 5:
                twin = forced(book, "z", new, path, split)
                self.assertIsNotNone(first_trouble(play(twin, refusal.run(split), 200)))
            try:
                other = split_all(book, "z", new, path, 5)
            except errors.NoSplits as none:
                self.assertTrue(is_refusal(book, "z", new, path, 5, none.cases))
                found["none"] += 1
                continue
            except errors.TooMany:
                continue
            found["split"] += 1
            self.assertTrue(load_book(book_text(other)) == other)
            two = Console(other)
            for _ in range(20):
                for name in other.names():
                    two.execute(f"hand {name} {chance.randint(0, 4)}")
                two.execute("step 1")
            two.execute("step 40")
            self.assertEqual([two.execute("late"), two.machine().full()], ["0", None])
        self.assertGreater(found["none"], 5)
        self.assertGreater(found["split"], 2)


if __name__ == "__main__":
    unittest.main()
