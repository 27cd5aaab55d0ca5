"""KEPT, NO EFFECT and what stays independent: books that are changed while units are on their way."""

import random
import unittest

import dueways.errors as errors
from dueways.admission import admit
from dueways.cases import split_all
from dueways.changes import change_capacity, earliest, end_stream, reroute, shed
from dueways.curves import Curve
from dueways.machine import Machine
from dueways.reserves import fail
from made import CURVES, curve, drawn_path, safe_book
from plain_changes import total
from plain_machine import told_by
from test_machine import drawn_dict
from test_reroute import pair


def life_at(book, name, tick):
    for life in book.lives_of(name):
        if life[0] <= tick and (life[1] is None or tick < life[1]):
            return life
    return None


def changed(chance, book, tick):
    """Change a book in some way from a tick on; return the kind of change, or None if it was not possible."""
    kind = chance.choice(["admit", "admit", "earliest", "end", "reroute", "reroute", "slow", "shed"])
    name = chance.choice(book.names()) if book.names() else None
    station = chance.choice(book.network.names())
    new, path = curve(chance.choice(CURVES)), drawn_path(chance, book.network)
    fresh = [one for one in "abcdefghij" if one not in book.names()]
    try:
        if kind == "admit" and fresh:
            admit(book, fresh[0], new, path, 40, begin=tick + chance.randint(0, 3))
        elif kind == "earliest" and fresh:
            found, _ = earliest(book, fresh[0], new, path, 9, begin=tick, until=tick + 5)
            if found is None:
                return None
            admit(book, fresh[0], new, path, 9, begin=found)
        elif kind == "end":
            end_stream(book, name, tick)
        elif kind == "reroute":
            if reroute(book, name, path, 40, at=tick, until=tick + 6) is None:
                return None
        elif kind == "slow":
            change_capacity(book, station, tick + chance.randint(0, 3), chance.randint(0, 4))
        elif kind == "shed":
            weights = {one: chance.randint(0, 3) for one in book.names()}
            if not shed(book, station, tick, chance.randint(0, 2), weights):
                return None
    except (errors.Refused, errors.Overfull, errors.TooMany, errors.InvalidTick, errors.UnknownStream):
        return None
    return kind


class TestKept(unittest.TestCase):
    def check(self, machine, lost=()):
        """Check that each unit arrives at its entry plus the total of its life's path."""
        book = machine.book()
        self.assertEqual([machine.late(), machine.full()], [[], None])
        for name in book.names():
            number = 0
            for tick, units in enumerate(machine.entered(name)):
                for _ in range(units):
                    _, _, path, split = life_at(book, name, tick)
                    arrival = tick + total(book.network, path, split)
                    expected = arrival if arrival <= machine.tick and (name, number) not in lost else None
                    self.assertEqual(machine.arrivals(name)[number], expected)
                    number += 1

    def test_across_all_changes(self):
        chance = random.Random(271)
        kinds = []
        for _ in range(60):
            book = safe_book(chance, many=3)
            machine = Machine(book, queue=chance.choice([0, 3, 60]))
            for _ in range(10):
                for _ in range(chance.randint(0, 5)):
                    machine.step(handed=drawn_dict(chance, machine.book().names(), 5),
                                 loose=drawn_dict(chance, book.network.names(), 3))
                now = machine.book()
                kind = changed(chance, now, machine.tick)
                if kind is not None:
                    kinds.append(kind)
                    self.assertTrue(now.is_safe())
                    self.assertIsNone(machine.use(now))
                    self.assertTrue(machine.book() == now)
            for _ in range(40):
                machine.step(handed=drawn_dict(chance, machine.book().names(), 5))
            self.check(machine)
        self.assertEqual(len(set(kinds)), 6)
        self.assertGreater(min(kinds.count(kind) for kind in set(kinds)), 5)

    def test_a_failure_of_a_station_that_no_stream_passes(self):
        chance = random.Random(272)
        seen = 0
        for _ in range(60):
            machine = Machine(safe_book(chance, many=2, stations=4))
            for _ in range(5):
                machine.step(handed=drawn_dict(chance, machine.book().names(), 5))
            now = machine.book()
            free = [station for station in now.network.names() if not now.loads_of(station)]
            if free:
                self.assertEqual(fail(machine, free[0]), [])
                now = machine.book()
                for _ in range(3):
                    changed(chance, now, machine.tick)
                machine.use(now)
                for _ in range(40):
                    machine.step(handed=drawn_dict(chance, now.names(), 5))
                self.check(machine)
                seen += 1
        self.assertGreater(seen, 20)

    def test_changes_after_a_failure(self):
        # Streams that do not pass the failed station, and those that are admitted later, keep their times.
        chance = random.Random(273)
        changes = 0
        for _ in range(40):
            machine = Machine(safe_book(chance, many=3, stations=4))
            for _ in range(6):
                machine.step(handed=drawn_dict(chance, machine.book().names(), 5))
            told = fail(machine, chance.choice(machine.book().network.names()))
            for _ in range(4):
                now = machine.book()
                if changed(chance, now, machine.tick) is not None:
                    changes += 1
                    machine.use(now)
                for _ in range(3):
                    machine.step(handed=drawn_dict(chance, now.names(), 5))
            lost = [(name, number) for name, number, _ in told]
            for _ in range(30):
                machine.step(handed=drawn_dict(chance, machine.book().names(), 5))
            self.check(machine, lost)
        self.assertGreater(changes, 40)

    def test_other_splits(self):
        # A machine of the book with other splits keeps the times of all streams, the new one included.
        chance = random.Random(274)
        found = 0
        for _ in range(60):
            book = safe_book(chance, many=3)
            try:
                more = split_all(book, "z", curve(chance.choice(CURVES)), drawn_path(chance, book.network, 2), 12)
            except (errors.NoSplits, errors.TooMany):
                continue
            machine = Machine(more)
            for _ in range(40):
                machine.step(handed=drawn_dict(chance, more.names(), 5))
            self.check(machine)
            found += 1
        self.assertGreater(found, 20)


class TestIndependence(unittest.TestCase):
    def test_books_of_several_machines(self):
        chance = random.Random(275)
        for _ in range(20):
            book = safe_book(chance, many=3)
            one, two, three = Machine(book), Machine(book), Machine(book)
            for _ in range(12):
                handed = drawn_dict(chance, book.names(), 4)
                for machine in (one, two, three):
                    machine.step(handed=handed)
                now = one.book()
                if changed(chance, now, one.tick) is not None:
                    one.use(now)
                    two.use(now)
                    # What is changed later in this book has no effect.
                    end_stream(now, now.names()[0], now.lives_of(now.names()[0])[-1][0])
                    self.assertTrue(one.book() == two.book())
                self.assertEqual(told_by(one), told_by(two))
            self.assertTrue(three.book() == book)

    def test_answers_and_queries(self):
        book = pair()
        admit(book, "x", Curve([1]), ["p"], 9)
        before = book.clone()
        for _ in range(2):
            told, refusals = earliest(book, "y", Curve([2], gain=2), ["p"], 9, begin=0, until=3)
            self.assertEqual([told, len(refusals)], [None, 4])
            refusals.clear()
            told, refusals = earliest(book, "y", Curve([1]), ["q"], 9, begin=0, until=3)
            self.assertEqual([told, refusals], [0, []])
        self.assertTrue(book == before)
        lives = book.lives_of("x")
        end_stream(book, "x", 3)
        self.assertEqual(lives, [(0, None, ("p",), (1,))])
        self.assertEqual(before.lives_of("x"), lives)


if __name__ == "__main__":
    unittest.main()
