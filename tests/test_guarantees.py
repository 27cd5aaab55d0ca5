"""The guarantees KEPT and NO EFFECT for machines of safe books. (CAUSE: see the runs of test_refusals.py.)"""

import random
import unittest

from dueways.admission import admit, fastest, least_total
from dueways.book import Book
from dueways.curves import Curve
from dueways.errors import Refused
from dueways.machine import Machine
from dueways.records import greedy, keeps
from made import CURVES, admit_some, any_book, curve, drawn_path, safe_book
from plain_machine import told_by
from test_admission import drawn_books
from test_machine import drawn_dict


def check_kept(case, machine):
    """Check that all units of a machine were in time and that it had places for all."""
    book = machine.book()
    case.assertEqual([machine.late(), machine.full()], [[], None])
    for name in book.names():
        case.assertTrue(keeps(machine.entered(name), book.curve_of(name)))
        expected = []
        for tick, units in enumerate(machine.entered(name)):
            for begin, end, path, split in book.lives_of(name):
                if begin <= tick and (end is None or tick < end):
                    links = sum(book.network.link(*pair) for pair in zip(path, path[1:]))
                    arrival = tick + sum(split) + links
                    expected += [arrival if arrival <= machine.tick else None] * units
        case.assertEqual(machine.arrivals(name), expected)


class TestKept(unittest.TestCase):
    def test_whatever_is_handed_in(self):
        chance = random.Random(101)
        units = 0
        for book in drawn_books(60, 102) + [safe_book(chance, many=6, latest=9) for _ in range(40)]:
            most = chance.choice([1, 3, 9])
            machine = Machine(book, queue=chance.choice([0, 2, 60]))
            for _ in range(30):
                machine.step(handed=drawn_dict(chance, book.names(), most),
                             loose=drawn_dict(chance, book.network.names(), 3))
            check_kept(self, machine)
            units += sum(sum(machine.entered(name)) for name in book.names())
        self.assertGreater(units, 2000)

    def test_all_streams_as_greedy_as_possible(self):
        chance = random.Random(103)
        for book in drawn_books(40, 104) + [safe_book(chance, many=6, latest=4) for _ in range(40)]:
            machine = Machine(book)
            # Some begin later, such that the most units of all meet somewhere.
            delays = {name: chance.choice([0, 0, 1, 2, 3, 5]) for name in book.names()}
            rows = {name: greedy(book.curve_of(name), 24) for name in book.names()}
            for tick in range(24):
                machine.step(handed={name: rows[name][tick - delays[name]] for name in book.names()
                                     if tick >= delays[name]})
            check_kept(self, machine)

    def test_streams_that_are_admitted_on_the_way(self):
        chance = random.Random(105)
        admitted = 0
        for _ in range(40):
            book = safe_book(chance, many=3)
            machine = Machine(book)
            for name in ("g", "h", "i"):
                for _ in range(chance.randint(0, 5)):
                    machine.step(handed=drawn_dict(chance, machine.book().names(), 5))
                now = machine.book()
                try:
                    admit(now, name, curve(chance.choice(CURVES)), drawn_path(chance, now.network), 40,
                          begin=machine.tick + chance.randint(0, 2))
                except Refused:
                    continue
                machine.use(now)
                admitted += 1
            for _ in range(20):
                machine.step(handed=drawn_dict(chance, machine.book().names(), 5))
            check_kept(self, machine)
        self.assertGreater(admitted, 40)


class TestNoEffect(unittest.TestCase):
    def test_loose_units(self):
        chance = random.Random(106)
        for _ in range(40):
            book = any_book(chance)
            one, two = Machine(book), Machine(book)
            for _ in range(20):
                handed = drawn_dict(chance, book.names(), 4)
                one.step(handed=handed)
                two.step(handed=handed, loose=drawn_dict(chance, book.network.names(), 5))
            told, other = told_by(one), told_by(two)
            told.pop("loose")
            other.pop("loose")
            self.assertEqual(told, other)

    def test_other_senders(self):
        chance = random.Random(107)
        for book in drawn_books(30, 108) + [safe_book(chance, many=5, latest=3) for _ in range(30)]:
            if not book.names():
                continue
            one, two, name = Machine(book), Machine(book), chance.choice(book.names())
            for _ in range(20):
                units = chance.randint(0, 3)
                one.step(handed={name: units})
                two.step(handed={**drawn_dict(chance, book.names(), 9), name: units})
            for ask in ("entered", "arrivals", "waiting", "sent_back"):
                self.assertEqual(getattr(one, ask)(name), getattr(two, ask)(name))
            for station in book.network.names():
                released = [[unit for unit in machine.released(station) if unit[1] == name] for machine in (one, two)]
                self.assertEqual(*released)

    def test_questions(self):
        chance = random.Random(109)
        for _ in range(30):
            book = any_book(chance, many=2)
            one, two = Machine(book), Machine(book)
            for _ in range(12):
                handed = drawn_dict(chance, book.names(), 4)
                one.step(handed=handed)
                two.step(handed=handed)
                before = told_by(two)
                two.clone().step()
                two.book().put_changes(book.network.names()[0], [])
                two.book().is_safe()
                self.assertEqual(told_by(two), before)
                self.assertEqual(told_by(one), before)

    def test_questions_to_a_book(self):
        chance = random.Random(110)
        for _ in range(30):
            book = safe_book(chance, many=2, latest=3)
            twin = book.clone()
            new, path = curve(chance.choice(CURVES)), drawn_path(chance, book.network)
            for _ in range(3):
                least_total(twin, curve(chance.choice(CURVES)), drawn_path(chance, book.network))
                fastest(twin, new, chance.choice(book.network.names()), chance.choice(book.network.names()))
                twin.is_safe()
                twin.is_plain()
            self.assertTrue(twin == book)
            told = []
            for one in (book, twin):
                try:
                    told.append(admit(one, "z", new, path, 30))
                except Refused as refused:
                    told.append(refused.refusal.table())
            self.assertEqual(told[0], told[1])

    def test_books_of_one_network_are_independent(self):
        chance = random.Random(111)
        book = safe_book(chance, many=0)
        others = [admit_some(chance, Book(book.network), 4) for _ in range(5)]
        self.assertEqual(book.names(), [])
        self.assertTrue(all(other.is_safe() for other in others))
        self.assertEqual(least_total(book, Curve([1]), [book.network.names()[0]]), 1)


if __name__ == "__main__":
    unittest.main()
