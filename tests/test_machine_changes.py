"""Machines in which another book is used, and streams are dropped."""

import random
import unittest

import dueways.errors as errors
from dueways.admission import admit
from dueways.book import Book
from dueways.curves import Curve
from dueways.faults import Hold
from dueways.machine import Machine
from dueways.network import Network, Station
from made import CURVES, any_book, curve, drawn_lives, drawn_path
from plain_machine import PlainMachine, told_by
from test_machine import chain_book, drawn_dict, drawn_faults, made_book

ONE = Curve([1], gain=1)


def base(capacity=2, room=9):
    return made_book([("p", capacity, room), ("q", capacity, room)], [("p", "q", 1)],
                     ("x", [2], 1, [(0, 2, ("p", "q"), (2, 1)), (3, None, ("q",), (2,))]),
                     ("y", [2], 1, [(1, None, ("p",), (3,))]))


def after(book, ticks):
    """Return a machine of a book after some ticks with a unit of each stream handed in in each."""
    machine = Machine(book)
    for _ in range(ticks):
        machine.step(handed={name: 1 for name in book.names()})
    return machine


def going_on(chance, book, tick):
    """Return a book that may follow on another one at a tick: lives end, others begin, streams and changes come."""
    twin = book.clone()
    for name in book.names():
        lives = [life for life in book.lives_of(name) if life[0] < tick or life[1] is None or chance.randint(0, 1)]
        lives = [life for life in lives if life[0] < tick]
        if lives and (lives[-1][1] is None or lives[-1][1] >= tick) and chance.randint(0, 2):
            begin, _, path, split = lives[-1]
            lives[-1] = (begin, tick + chance.randint(0, 2), path, split)
        last = lives[-1][1] if lives else tick
        if last is not None and chance.randint(0, 2):
            path = drawn_path(chance, book.network)
            begin = max(last, tick) + chance.randint(0, 2)
            lives.append((begin, None, tuple(path), tuple(chance.randint(1, 4) for _ in path)))
        if lives:
            twin.put_stream(name, book.curve_of(name), chance.randint(0, 100), lives)
        else:
            twin.put_stream(name, book.curve_of(name), 90, book.lives_of(name))
    new = [name for name in ("k", "l") if name not in book.names()]
    for name in new[:chance.randint(0, 2)]:
        twin.put_stream(name, curve(chance.choice(CURVES)), 90, drawn_lives(chance, book.network, latest=tick + 4))
    station = chance.choice(book.network.names())
    kept = [change for change in book.supply_of(station).changes() if change[0] < tick]
    twin.put_changes(station, kept + [(max(1, tick) + chance.randint(0, 2), chance.randint(0, 3))])
    return twin


class TestUse(unittest.TestCase):
    def test_tick_by_tick(self):
        chance = random.Random(91)
        for _ in range(60):
            book = any_book(chance)
            faults = drawn_faults(chance, book, 3)
            machine, plain = Machine(book, queue=4, faults=faults), PlainMachine(book, 4, faults)
            for tick in range(24):
                if chance.randint(0, 3) == 0:
                    other = going_on(chance, machine.book(), tick)
                    before = other.clone()
                    self.assertIsNone(machine.use(book=other))
                    self.assertTrue(other == before)
                    plain.use(other)
                    self.assertTrue(machine.book() == other)
                    self.assertEqual(told_by(machine), plain.told())
                if chance.randint(0, 7) == 0:
                    name = chance.choice(machine.book().names())
                    self.assertEqual(machine.drop(name), plain.drop(name))
                    self.assertEqual(told_by(machine), plain.told())
                handed = drawn_dict(chance, machine.book().names(), 4)
                loose = drawn_dict(chance, book.network.names(), 2)
                machine.step(handed=handed, loose=loose)
                plain.step(handed, loose)
                self.assertEqual(told_by(machine), plain.told())

    def test_clones_after_changes(self):
        chance = random.Random(92)
        for _ in range(20):
            machine = after(any_book(chance), 7)
            machine.use(going_on(chance, machine.book(), 7))
            machine.drop("a")
            machine.step(handed={"b": 3})
            twin = machine.clone()
            self.assertEqual(told_by(twin), told_by(machine))
            for _ in range(6):
                handed = drawn_dict(chance, machine.book().names(), 4)
                twin.step(handed=handed)
                machine.step(handed=handed)
            self.assertEqual(told_by(twin), told_by(machine))

    def test_a_new_stream(self):
        machine = after(base(), 5)
        book = machine.book()
        book.put_stream("z", Curve([1]), 9, [(2, None, ("q",), (1,))])
        machine.use(book)
        self.assertEqual([machine.entered("z"), machine.arrivals("z"), machine.waiting("z")], [[0] * 5, [], 0])
        machine.step(handed={"z": 2})
        self.assertEqual([machine.entered("z"), machine.waiting("z")], [[0] * 5 + [1], 1])
        book.put_stream("w", Curve([1]), 9, [(2, None, ("q",), (1,))])
        self.assertEqual(machine.book().names(), ["x", "y", "z"])
        machine.step()
        # The unit that entered before counts in the record, also if no unit can enter any more.
        self.assertEqual(machine.entered("z"), [0] * 5 + [1, 0])

    def test_an_admitted_stream(self):
        book = Book(Network([Station("p", 1, 9)]))
        admit(book, "x", Curve([1, 1], period=2, gain=1), ["p"], 9)
        machine = Machine(book, queue=0)
        machine.step(handed={"x": 1})
        now = machine.book()
        admit(now, "y", Curve([1, 1], period=2, gain=1), ["p"], 9, begin=machine.tick)
        machine.use(now)
        for _ in range(4):
            machine.step(handed={"x": 1, "y": 1})
        self.assertEqual([machine.entered("x"), machine.entered("y")], [[1, 0, 1, 0, 1], [0, 1, 0, 1, 0]])
        self.assertEqual([machine.late(), machine.arrivals("y")], [[], [3, 5]])

    def test_lives_that_end_now(self):
        machine = after(base(), 5)
        book = machine.book()
        book.put_stream("x", book.curve_of("x"), 3, [(0, 2, ("p", "q"), (2, 1)), (3, 5, ("q",), (2,))])
        book.put_stream("y", book.curve_of("y"), 3, [(1, 5, ("p",), (3,)), (5, None, ("q",), (1,))])
        machine.use(book)
        machine.step(handed={"x": 1, "y": 1})
        self.assertEqual([machine.entered("x"), machine.waiting("x")], [[1, 1, 0, 2, 1, 0], 1])
        # The units that entered in the old life go on as planned, the new ones go the new way.
        machine.step()
        machine.step()
        self.assertEqual([unit for unit in machine.released("q") if unit[1] == "y"], [(5, "y", 5)])
        self.assertEqual(machine.arrivals("y"), [4, 4, 5, 6, 7, 6])

    def test_books_that_are_not_as_required(self):
        def lives(name, new, curve=None):
            book = base()
            book.put_stream(name, curve or book.curve_of(name), book.within_of(name), new)
            return book

        def changed(changes):
            book = base()
            book.put_changes("q", changes)
            return book

        x, y = base().lives_of("x"), base().lives_of("y")
        turned = Book(base().network)
        for name in ("y", "x"):
            turned.put_stream(name, base().curve_of(name), 90, base().lives_of(name))
        fewer = Book(base().network)
        fewer.put_stream("x", base().curve_of("x"), 90, x)
        first = Book(base().network)
        for name in ("w", "x", "y"):
            first.put_stream(name, ONE if name == "w" else base().curve_of(name), 90, [y[0]] if name != "x" else x)
        wrong = {
            "another room": base(room=8), "another capacity": base(capacity=3), "turned": turned, "fewer": fewer,
            "another first one": first, "another curve": lives("y", y, Curve([2], gain=2)),
            "another begin": lives("y", [(0, None, ("p",), (3,))]), "a later begin": lives("y", [(2, None, ("p",), (3,))]),
            "another path": lives("y", [(1, None, ("q",), (3,))]), "another split": lives("y", [(1, None, ("p",), (2,))]),
            "an early end": lives("y", [(1, 4, ("p",), (3,))]), "another life": lives("x", [x[1]]),
            "a longer life": lives("x", [(0, 3, ("p", "q"), (2, 1)), x[1]]),
            "a life in between": lives("x", [x[0], (2, 3, ("p",), (1,)), x[1]]),
            "a life begun anew": lives("y", [(1, 3, ("p",), (3,)), (3, None, ("p",), (3,))]),
            "a change": changed([(4, 1)]), "a change and back": changed([(2, 1), (3, 2)]),
        }
        for reason, book in wrong.items():
            machine = after(base(), 5)
            before = told_by(machine)
            with self.subTest(reason), self.assertRaises(errors.InvalidBook):
                machine.use(book)
            self.assertEqual(told_by(machine), before)
            self.assertTrue(machine.book() == base())

    def test_books_that_are_as_required(self):
        x, y = base().lives_of("x"), base().lives_of("y")
        for change in [[(5, 1)], [(7, 0)], [(3, 2), (5, 9)]]:
            book = base()
            book.put_changes("q", change)
            self.assertIsNone(after(base(), 5).use(book))
        for name, new in [("y", [(1, 5, ("p",), (3,))]), ("y", [(1, 9, ("p",), (3,)), (9, None, ("q",), (1,))]),
                          ("x", [x[0], (3, 5, ("q",), (2,)), (5, None, ("p",), (1,))]),
                          ("x", [x[0], (2, 2, ("p",), (1,)), x[1]])]:
            book = base()
            book.put_stream(name, book.curve_of(name), 1, new)
            self.assertIsNone(after(base(), 5).use(book))
        early = base()
        early.put_stream("y", early.curve_of("y"), 90, [(0, None, ("q",), (1,))])
        machine = Machine(base())
        self.assertIsNone(machine.use(early))
        self.assertEqual(y, base().lives_of("y"))
        ended = base()
        ended.put_stream("y", ended.curve_of("y"), 90, [(1, 5, ("p",), (3,))])
        self.assertIsNone(after(ended, 5).use(base()))
        with self.assertRaises(errors.InvalidBook):
            after(ended, 6).use(base())


class TestDrop(unittest.TestCase):
    def test_with_and_without_a_place(self):
        # At p with a place: one that is served and one that waits; on the link: one; not released yet: one; arrived.
        book = made_book([("p", 1, 9), ("q", 1, 9)], [("p", "q", 3)],
                         ("x", [2], 1, [(0, None, ("p", "q"), (2, 1))]), ("y", [1], 1, [(0, None, ("q",), (1,))]))
        machine = Machine(book)
        for tick in range(4):
            machine.step(handed={"x": 1, "y": 1 if tick == 3 else 0})
        self.assertEqual(machine.units("p"), [("x", 3, 5, True)])
        self.assertEqual(machine.drop(stream="x"), [(0, None), (1, None), (2, None), (3, "p")])
        self.assertEqual(machine.lost("x"), [0, 1, 2, 3])
        self.assertEqual([machine.drop("y"), machine.arrivals("y")], [[], [4]])
        machine.step(handed={"x": 1})
        self.assertEqual(machine.units("p"), [("x", 4, 6, True)])
        self.assertEqual([machine.drop("x"), machine.lost("x")], [[(4, "p")], [0, 1, 2, 3, 4]])
        self.assertEqual(machine.drop("x"), [])
        for _ in range(8):
            machine.step()
        self.assertEqual([machine.arrivals("x"), machine.units("p"), machine.released("q")],
                         [[None] * 5, [], [(3, "y", 0)]])

    def test_held_units_have_no_place(self):
        machine = Machine(chain_book(capacity=9), faults=[Hold("x", 1, 0, 3), Hold("x", 0, 1, 3)])
        for _ in range(3):
            machine.step(handed={"x": 2} if machine.tick == 0 else None)
        self.assertEqual(machine.drop("x"), [(0, None), (1, None)])
        for _ in range(6):
            machine.step()
        self.assertEqual([machine.released("p"), machine.released("q")], [[(0, "x", 0)], []])
        self.assertEqual([machine.late(), machine.arrivals("x")], [[], [None, None]])

    def test_blanks_stay_until_they_would_leave(self):
        book = made_book([("p", 1, 2)], [], ("x", [3], 0, [(0, None, ("p",), (1,))]),
                         ("y", [1], 1, [(0, None, ("p",), (4,))]))
        machine = Machine(book)
        machine.step(handed={"x": 3})
        self.assertEqual(machine.drop("x"), [(1, "p"), (2, "p")])
        self.assertEqual([machine.late(), machine.arrivals("x")],
                         [[(1, "p", "x", 1), (1, "p", "x", 2)], [1, None, None]])
        machine.step(handed={"y": 1})
        # Blanks are served by their due before y, and hold their places.
        self.assertEqual(machine.units("p"), [("x", 2, 1, False), ("y", 0, 5, False)])
        self.assertEqual(machine.full(), (0, "p"))
        machine.step()
        machine.step()
        self.assertEqual(machine.served("p"), [(0, "x", 0), (1, "x", 1), (2, "x", 2), (3, "y", 0)])
        self.assertEqual(machine.units("p"), [("y", 0, 5, True)])
        self.assertEqual(machine.late(), [(1, "p", "x", 1), (1, "p", "x", 2)])

    def test_blanks_do_not_become_late(self):
        book = made_book([("p", 1, 9)], [], ("x", [4], 0, [(0, None, ("p",), (2,))]))
        machine = Machine(book)
        machine.step(handed={"x": 4})
        machine.drop("x")
        for _ in range(5):
            machine.step()
        self.assertEqual([machine.late(), machine.arrivals("x")], [[], [None] * 4])
        self.assertEqual(len(machine.served("p")), 4)
        machine = Machine(book)
        machine.step(handed={"x": 4})
        machine.step()
        self.assertEqual(machine.drop("x"), [(2, "p"), (3, "p")])
        for _ in range(5):
            machine.step()
        self.assertEqual([machine.late(), machine.arrivals("x")],
                         [[(2, "p", "x", 2), (2, "p", "x", 3)], [2, 2, None, None]])

    def test_units_at_the_police_stay(self):
        machine = Machine(chain_book(capacity=9))
        machine.step(handed={"x": 5})
        machine.drop("x")
        self.assertEqual(machine.waiting("x"), 3)
        machine.step()
        self.assertEqual([machine.waiting("x"), machine.entered("x")], [2, [2, 1]])
        for _ in range(4):
            machine.step()
        self.assertEqual([machine.arrivals("x")[:4], machine.lost("x")], [[None, None, 4, 5], [0, 1]])

    def test_full_counts_blanks(self):
        book = made_book([("p", 0, 2)], [], ("x", [2], 0, [(0, None, ("p",), (9,))]),
                         ("y", [1], 1, [(0, None, ("p",), (9,))]))
        machine = Machine(book)
        machine.step(handed={"x": 2})
        machine.drop("x")
        self.assertIsNone(machine.full())
        machine.step(handed={"y": 1})
        self.assertEqual(machine.full(), (1, "p"))

    def test_unknown_streams(self):
        machine = after(base(), 3)
        before = told_by(machine)
        for value in ("z", "p", None, ["x"], True):
            with self.assertRaises(errors.UnknownStream) as caught:
                machine.drop(value)
            self.assertEqual(caught.exception.value, value)
        self.assertEqual(told_by(machine), before)


if __name__ == "__main__":
    unittest.main()
