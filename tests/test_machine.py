"""Machines without changes of the book: tick by tick, by the plain restatement, and the kinds of faults."""

import random
import unittest
from copy import deepcopy

import dueways.errors as errors
from dueways.book import Book
from dueways.curves import Curve
from dueways.faults import Fault, Hold, Idle, Leak, Swap
from dueways.machine import Machine
from dueways.network import Network, Station
from made import any_book, safe_book
from plain import NO_COUNTS, NO_INTEGERS, Stranger
from plain_machine import PlainMachine, told_by

STRANGE = NO_INTEGERS + [0, "w", "A", ["x"], ("x",)]


def made_book(stations, links, *streams):
    """Return a book with streams (name, values, gain, lives)."""
    book = Book(Network([Station(*station) for station in stations], links))
    for name, values, gain, lives in streams:
        book.put_stream(name, Curve(values, gain=gain), 90, lives)
    return book


def chain_book(capacity=1, length=0, room=5):
    """Return a book with a stream x through two stations and a stream y at the first one."""
    return made_book([("p", capacity, room), ("q", capacity, room)], [("p", "q", length)],
                     ("x", [2], 1, [(0, None, ("p", "q"), (2, 1))]), ("y", [2], 1, [(0, None, ("p",), (3,))]))


def drawn_faults(chance, book, many, latest=14):
    """Return some faults of a book."""
    found = []
    for _ in range(many):
        station, stream = chance.choice(book.network.names()), chance.choice(book.names())
        tick = chance.randint(0, latest)
        found.append(chance.choice([
            Idle(station, tick, chance.randint(1, 2)), Swap(station, tick), Leak(stream, tick, chance.randint(1, 3)),
            Hold(stream, chance.randint(0, 8), chance.randint(0, 4), chance.randint(1, 5))]))
    return found


def drawn_dict(chance, names, most):
    return {name: chance.randint(0, most) for name in names if chance.randint(0, 2)}


class TestTickByTick(unittest.TestCase):
    def check(self, chance, book, faults, ticks, queue, most=4):
        """Compare a machine with the plain one after each tick; return the machine."""
        machine, plain = Machine(book, queue=queue, faults=faults), PlainMachine(book, queue, faults)
        self.assertEqual(told_by(machine), plain.told())
        for _ in range(ticks):
            handed = drawn_dict(chance, book.names(), most)
            loose = drawn_dict(chance, book.network.names(), 2)
            before = (dict(handed), dict(loose))
            machine.step(handed=handed, loose=loose)
            self.assertEqual((handed, loose), before)
            plain.step(handed, loose)
            self.assertEqual(told_by(machine), plain.told())
        return machine

    def test_books_that_are_not_safe(self):
        chance = random.Random(81)
        late, full = 0, 0
        for _ in range(60):
            book = any_book(chance)
            machine = self.check(chance, book, [], 22, chance.choice([0, 1, 3, 60]))
            late += len(machine.late())
            full += machine.full() is not None
        self.assertGreater(late, 200)
        self.assertGreater(full, 10)

    def test_faults_of_all_kinds(self):
        chance = random.Random(82)
        for _ in range(60):
            book = any_book(chance)
            self.check(chance, book, drawn_faults(chance, book, 8), 20, 3)

    def test_safe_books_with_faults(self):
        chance = random.Random(83)
        late = 0
        for _ in range(40):
            book = safe_book(chance, latest=2)
            if book.names():
                late += len(self.check(chance, book, drawn_faults(chance, book, 6), 18, 60).late())
        self.assertGreater(late, 20)

    def test_ties(self):
        # Equal dues at one station: the stream that comes first in the book, then the lower number.
        book = made_book([("p", 2, 9)], [], ("y", [2], 2, [(0, None, ("p",), (3,))]),
                         ("b", [2], 2, [(0, None, ("p",), (3,))]), ("x", [1], 1, [(0, None, ("p",), (2,))]))
        machine = Machine(book)
        machine.step(handed={"b": 2, "y": 2, "x": 1})
        machine.step()
        machine.step()
        self.assertEqual(machine.served("p"), [(0, "y", 0), (0, "x", 0), (1, "y", 1), (1, "b", 0), (2, "b", 1)])
        self.assertEqual(machine.released("p"), [(0, "y", 0), (0, "y", 1), (0, "b", 0), (0, "b", 1), (0, "x", 0)])


class TestNamedRuns(unittest.TestCase):
    def test_links_and_arrivals(self):
        for length in (0, 1, 4):
            machine = Machine(chain_book(length=length))
            for tick in range(3 + length):
                self.assertEqual(machine.arrivals("x"), [None] if tick else [])
                machine.step(handed={"x": 1} if tick == 0 else None)
            self.assertEqual(machine.released("q"), [(2 + length, "x", 0)])
            self.assertEqual(machine.arrivals("x"), [3 + length])
            self.assertEqual(machine.units("q"), [])

    def test_units_as_the_present_tick_begins(self):
        machine = Machine(chain_book())
        self.assertEqual(machine.units("p"), [])
        machine.step(handed={"y": 2, "x": 1})
        self.assertEqual(machine.units("p"), [("x", 0, 2, True), ("y", 0, 3, False), ("y", 1, 3, False)])
        machine.step()
        self.assertEqual(machine.units("p"), [("y", 0, 3, True), ("y", 1, 3, False)])
        self.assertEqual(machine.units("q"), [])
        machine.step()
        self.assertEqual([machine.units("p"), machine.units("q")], [[], []])
        self.assertEqual([machine.arrivals("x"), machine.arrivals("y")], [[3], [3, 3]])

    def test_late_units(self):
        book = made_book([("p", 1, 9), ("q", 1, 9)], [("p", "q", 2)], ("x", [3], 0, [(0, None, ("p", "q"), (1, 2))]))
        machine = Machine(book)
        machine.step(handed={"x": 3})
        self.assertEqual(machine.late(), [(1, "p", "x", 1), (1, "p", "x", 2)])
        machine.step()
        machine.step()
        self.assertEqual(machine.late(), [(1, "p", "x", 1), (1, "p", "x", 2)])
        for _ in range(6):
            machine.step()
        # The third one is released two ticks late and its due is the planned one, so it is late there too.
        self.assertEqual(machine.released("q"), [(3, "x", 0), (4, "x", 1), (5, "x", 2)])
        self.assertEqual(machine.late(), [(1, "p", "x", 1), (1, "p", "x", 2), (5, "q", "x", 2)])
        self.assertEqual(machine.arrivals("x"), [5, 5, 6])

    def test_late_from_the_tick_after_a_late_release(self):
        machine = Machine(chain_book(), faults=[Hold("x", 0, 0, 4)])
        seen = []
        for tick in range(7):
            seen.append(machine.late())
            machine.step(handed={"x": 1} if tick == 0 else {})
        self.assertEqual(seen, [[], [], [], [], [], [(2, "p", "x", 0)], [(2, "p", "x", 0), (3, "q", "x", 0)]])
        self.assertEqual(machine.late(), [(2, "p", "x", 0), (3, "q", "x", 0)])
        self.assertEqual(machine.released("p"), [(4, "x", 0)])

    def test_loose_units(self):
        machine = Machine(chain_book(capacity=2))
        machine.step(handed={"y": 1}, loose={"p": 3, "q": 1})
        self.assertEqual([machine.loose("p"), machine.loose("q")], [(2, [1]), (0, [1])])
        machine.step(handed={"y": 2})
        self.assertEqual(machine.loose("p"), (2, [1, 0]))
        machine.step()
        self.assertEqual(machine.loose("p"), (0, [1, 0, 2]))
        self.assertIsNone(machine.full())
        self.assertEqual(machine.units("q"), [])

    def test_full(self):
        book = made_book([("p", 9, 2), ("q", 9, 1)], [], ("x", [3], 0, [(1, None, ("p",), (1,))]),
                         ("y", [2], 0, [(0, None, ("q",), (2,))]))
        machine = Machine(book)
        machine.step(handed={"y": 1})
        self.assertIsNone(machine.full())
        machine.step(handed={"y": 1, "x": 3})
        self.assertEqual(machine.full(), (1, "p"))
        machine.step()
        self.assertEqual(machine.full(), (1, "p"))

    def test_queues_and_lives(self):
        book = made_book([("p", 9, 99)], [], ("x", [2], 1, [(1, 3, ("p",), (1,)), (4, None, ("p",), (2,))]))
        for queue, waiting, sent_back in [(0, [0] * 5, [3, 4, 5, 6, 6]), (2, [2, 2, 2, 2, 1], [1, 2, 3, 4, 4]),
                                          (60, [3, 4, 5, 6, 5], [0] * 5)]:
            machine = Machine(book, queue=queue)
            found = []
            for tick in range(5):
                machine.step(handed={"x": 3} if tick < 2 else {"x": 2 if tick == 2 else 1})
                found.append((machine.waiting("x"), machine.sent_back("x")))
            entered = machine.entered("x")
            self.assertEqual([entered[0], entered[3]], [0, 0])
            self.assertEqual(entered[1], 2)
            if queue == 60:
                self.assertEqual(entered, [0, 2, 1, 0, 2])
                self.assertEqual([one for one, _ in found], [3, 4, 5, 6, 5])


class TestFaultsAlone(unittest.TestCase):
    def served(self, faults, capacity=2, ticks=4):
        machine = Machine(chain_book(capacity=capacity, room=9), faults=faults)
        for tick in range(ticks):
            machine.step(handed={"x": 2, "y": 2} if tick == 0 else {}, loose={"p": 1} if tick == 1 else {})
        return machine

    def test_idle(self):
        plain = [(0, "x", 0), (0, "x", 1), (1, "y", 0), (1, "y", 1)]
        self.assertEqual(self.served([]).served("p"), plain)
        idle = self.served([Idle("p", 0, 1)])
        self.assertEqual(idle.served("p"), [(0, "x", 0), (1, "x", 1), (1, "y", 0), (2, "y", 1)])
        idle = self.served([Idle("p", 0, 1), Idle("p", 0, 1)])
        self.assertEqual(idle.served("p"), [(1, "x", 0), (1, "x", 1), (2, "y", 0), (2, "y", 1)])
        idle = self.served([Idle("p", 0, 20), Idle("p", 1, 1)])
        self.assertEqual(idle.served("p"), [(1, "x", 0), (2, "x", 1), (2, "y", 0), (3, "y", 1)])
        self.assertEqual(idle.loose("p"), (0, [0, 0, 0, 1]))
        self.assertEqual(idle.late(), [(2, "p", "x", 1), (3, "p", "y", 1), (3, "q", "x", 1)])

    def test_swap(self):
        swap = self.served([Swap("p", 0), Swap("p", 0)])
        self.assertEqual(swap.served("p"), [(0, "y", 0), (0, "y", 1), (1, "x", 0), (1, "x", 1)])
        swap = self.served([Swap("p", 0), Idle("p", 0, 1)])
        self.assertEqual(swap.served("p"), [(0, "y", 1), (1, "x", 0), (1, "x", 1), (2, "y", 0)])
        self.assertEqual(self.served([Swap("p", 3), Swap("q", 0)]).served("p"), self.served([]).served("p"))

    def test_leak(self):
        leaks = [Leak("x", 0, 1), Leak("x", 0, 2), Leak("y", 3, 5)]
        machine = Machine(chain_book(capacity=9, room=99), queue=1, faults=leaks)
        for tick in range(4):
            machine.step(handed={"x": 9 if tick == 0 else 0, "y": 2 if tick == 3 else 0})
        self.assertEqual([machine.entered("x"), machine.sent_back("x")], [[5, 0, 0, 0], 3])
        self.assertEqual(machine.entered("y"), [0, 0, 0, 2])
        book = made_book([("p", 9, 99)], [], ("x", [1], 0, [(2, 3, ("p",), (1,))]))
        machine = Machine(book, faults=[Leak("x", 1, 9), Leak("x", 2, 3), Leak("x", 3, 9)])
        for tick in range(4):
            machine.step(handed={"x": 2})
        self.assertEqual([machine.entered("x"), machine.waiting("x")], [[0, 0, 4, 0], 4])

    def test_hold(self):
        holds = [Hold("x", 1, 0, 1), Hold("x", 1, 0, 1), Hold("x", 0, 1, 3), Hold("y", 0, 1, 9), Hold("y", 7, 0, 1)]
        machine = self.served(holds, capacity=9, ticks=8)
        self.assertEqual(machine.released("p"), [(0, "x", 0), (0, "y", 0), (0, "y", 1), (2, "x", 1)])
        self.assertEqual(machine.released("q"), [(3, "x", 1), (5, "x", 0)])
        self.assertEqual(machine.late(), [(2, "p", "x", 1), (3, "q", "x", 0), (3, "q", "x", 1)])
        self.assertEqual(machine.arrivals("x"), [6, 4])
        early = Machine(made_book([("p", 1, 9)], [], ("x", [1], 1, [(0, None, ("p",), (5,))])),
                        faults=[Hold("x", 0, 0, 2)])
        for tick in range(5):
            early.step(handed={"x": 1} if tick == 0 else {})
        self.assertEqual([early.arrivals("x"), early.served("p"), early.late()], [[5], [(2, "x", 0)], []])


class TestErrors(unittest.TestCase):
    def test_queue(self):
        for value in NO_COUNTS:
            with self.subTest(value), self.assertRaises(errors.InvalidCount) as caught:
                Machine(chain_book(), queue=value, faults=None)
            self.assertEqual(repr(caught.exception.value), repr(value))

    def test_faults(self):
        fine = Idle("p", 0, 1)
        for value in NO_INTEGERS + [fine, 5]:
            if value not in ([], (), [1], (1,)):
                with self.subTest(value), self.assertRaises(errors.InvalidFaults) as caught:
                    Machine(chain_book(), faults=value)
                self.assertEqual(caught.exception.position, 0)
        wrong = NO_INTEGERS + [Fault(), Idle("x", 0, 1), Swap("z", 0), Leak("p", 0, 1), Hold("z", 0, 0, 1), [fine]]
        for value in wrong:
            for faults in ([fine, Leak("y", 1, 1), value, None], (fine, Hold("x", 0, 0, 1), value)):
                with self.subTest(value), self.assertRaises(errors.InvalidFaults) as caught:
                    Machine(chain_book(), faults=faults)
                self.assertEqual(caught.exception.position, 2)
        self.assertEqual(Machine(book=chain_book(), queue=0, faults=(fine,)).tick, 0)

    def test_step(self):
        machine = Machine(chain_book())
        machine.step(handed={"x": 1, "y": 2}, loose={"q": 1})
        before = told_by(machine)
        wrong = [value for value in NO_INTEGERS if value is not None and value != {}] + [5, "x", ["x"]]
        wrong += [{"z": 1}, {"x": 1, "z": 0}, {None: 1}, {("x",): 1}, {True: 1}]
        for value in NO_COUNTS:
            wrong.append({"x": value})
            with self.assertRaises(errors.InvalidHanded):
                machine.step(loose={"p": 1, "q": value})
        for value in wrong + [{"p": 1}]:
            with self.subTest(value), self.assertRaises(errors.InvalidHanded):
                machine.step(handed=value)
        for value in wrong + [{"x": 1}]:
            with self.subTest(value), self.assertRaises(errors.InvalidHanded):
                machine.step(handed={"x": 1}, loose=value)
        self.assertEqual(told_by(machine), before)
        machine.step(handed={}, loose={})
        machine.step(handed=None, loose=None)
        self.assertEqual(machine.tick, 3)
        with self.assertRaises(TypeError):
            machine.step({"x": 1})

    def test_unknown_streams_and_stations(self):
        machine = Machine(chain_book())
        for value in STRANGE[:-2] + [["x"], Stranger(), "p"]:
            if value != "x":
                for ask in (machine.entered, machine.waiting, machine.sent_back, machine.arrivals, machine.lost,
                            machine.drop):
                    with self.subTest(value), self.assertRaises(errors.UnknownStream) as caught:
                        ask(value)
                    self.assertEqual(repr(caught.exception.value), repr(value))
        for value in STRANGE + [Stranger(), "x"]:
            for ask in (machine.units, machine.released, machine.served, machine.loose):
                with self.subTest(value), self.assertRaises(errors.UnknownStation) as caught:
                    ask(value)
                self.assertEqual(repr(caught.exception.value), repr(value))


class TestCopies(unittest.TestCase):
    def test_clones_go_their_own_way(self):
        chance = random.Random(84)
        for _ in range(25):
            book = any_book(chance)
            faults = drawn_faults(chance, book, 5)
            machine, plain = Machine(book, queue=3, faults=faults), PlainMachine(book, 3, faults)
            for _ in range(chance.randint(0, 9)):
                handed = drawn_dict(chance, book.names(), 4)
                machine.step(handed=handed)
                plain.step(handed, {})
            twin, before = machine.clone(), deepcopy(plain.told())
            for _ in range(9):
                twin.step(handed=drawn_dict(chance, book.names(), 4), loose=drawn_dict(chance, book.network.names(), 2))
            twin.drop(book.names()[0])
            self.assertEqual(told_by(machine), before)
            other = machine.clone()
            for _ in range(9):
                handed, loose = drawn_dict(chance, book.names(), 4), drawn_dict(chance, book.network.names(), 2)
                other.step(handed=handed, loose=loose)
                plain.step(handed, loose)
            self.assertEqual(told_by(other), plain.told())
            self.assertEqual(told_by(machine), before)

    def test_the_book_is_copied(self):
        book = chain_book()
        machine = Machine(book)
        book.put_stream("z", Curve([1]), 9, [(0, None, ("p",), (1,))])
        self.assertEqual(machine.book().names(), ["x", "y"])
        machine.book().put_stream("z", Curve([1]), 9, [(0, None, ("p",), (1,))])
        self.assertTrue(machine.book() == chain_book())

    def test_the_queue_that_may_be_left_out(self):
        machine = Machine(made_book([("p", 1, 1)], [], ("x", [0], 0, [(0, None, ("p",), (1,))])))
        machine.step(handed={"x": 100})
        self.assertEqual([machine.waiting("x"), machine.sent_back("x")], [60, 40])

    def test_returned_lists_are_new(self):
        machine = Machine(chain_book(), faults=[Idle("p", 0, 1)])
        machine.step(handed={"x": 2, "y": 2}, loose={"p": 2})
        machine.step()
        machine.drop("y")
        before = told_by(machine)
        for ask, what in [(machine.entered, "x"), (machine.arrivals, "x"), (machine.lost, "y"), (machine.units, "p"),
                          (machine.released, "p"), (machine.served, "p")]:
            self.assertGreater(len(ask(what)), 0)
            ask(what).clear()
        machine.loose("p")[1].clear()
        machine.late().clear()
        machine.book().names().clear()
        self.assertGreater(len(before["late"]), 0)
        self.assertEqual(told_by(machine), before)

    def test_faults_are_copied(self):
        faults = [Idle("p", 0, 1)]
        machine = Machine(chain_book(), faults=faults)
        faults.append(Swap("p", 0))
        machine.step(handed={"x": 1, "y": 1})
        self.assertEqual(machine.served("p"), [])


if __name__ == "__main__":
    unittest.main()
