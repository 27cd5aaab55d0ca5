"""Failures of stations in machines: what is lost, what goes on, and ONE FAILURE."""

import random
import unittest

import dueways.errors as errors
from dueways.book import Book
from dueways.changes import change_capacity, end_stream
from dueways.curves import Curve
from dueways.faults import Hold, Idle, Leak
from dueways.machine import Machine
from dueways.network import Network, Station
from dueways.records import greedy
from dueways.reserves import after, fail, find_danger, with_reserves
from dueways.runs import forced
from made import safe_book
from plain_machine import told_by
from plain_reserves import FailingMachine
from test_changes import NO_NAMES, ONE
from test_machine import drawn_dict, drawn_faults
from test_reserves import drawn_reserves, drawn_tight, drawn_unsafe, put, ring


def line(capacity=1, room=9, time=3, length=0):
    """Return a book of three stations with a stream x from p through q to r, and a stream y at r."""
    stations = [Station(name, capacity, room, may_fail=name == "q") for name in "pqr"]
    book = Book(Network(stations, [("p", "q", length), ("q", "r", length), ("p", "r", 1)]))
    book = forced(book, "x", ONE, ["p", "q", "r"], [time, time, time])
    return forced(book, "y", ONE, ["r"], [12])


def run(book, ticks, faults=(), queue=60, **handed):
    machine = Machine(book, queue=queue, faults=faults)
    for tick in range(ticks):
        machine.step(handed={name: units[tick] for name, units in handed.items() if tick < len(units)})
    return machine


class TestTickByTick(unittest.TestCase):
    def test_by_the_plain_machine(self):
        chance = random.Random(261)
        lost, second = 0, 0
        for number in range(140):
            book = safe_book(chance, many=4) if number % 3 else drawn_unsafe(chance)
            book = put(book, drawn_reserves(chance, book))
            faults = drawn_faults(chance, book, 4) if number % 2 and book.names() else []
            machine, plain = Machine(book, queue=5, faults=faults), FailingMachine(book, 5, faults)
            ticks = {chance.randint(1, 14), chance.randint(1, 20)}
            for tick in range(24):
                if tick in ticks:
                    station = chance.choice(book.network.names())
                    before = told_by(machine)
                    if plain.book.is_plain() or any(plain.book.reserve_of(name) for name in plain.book.names()):
                        twin = machine.clone()
                        expected = plain.fail(station)
                        told = fail(machine=machine, station=station)
                        self.assertEqual(told, expected)
                        lost += len(told)
                        told.append(None)
                        self.assertEqual(told_by(twin), before)
                    else:
                        second += 1
                        with self.assertRaises(errors.NotPlain):
                            fail(machine, station)
                        self.assertEqual(told_by(machine), before)
                    self.assertEqual(told_by(machine), plain.told())
                if tick == 9 and book.names():
                    name = chance.choice(book.names())
                    self.assertEqual(machine.drop(name), plain.drop(name))
                handed = drawn_dict(chance, book.names(), 4)
                loose = drawn_dict(chance, book.network.names(), 2)
                machine.step(handed=handed, loose=loose)
                plain.step(handed, loose)
                self.assertEqual(told_by(machine), plain.told())
        self.assertGreater(lost, 150)
        self.assertGreater(second, 20)

    def test_the_book(self):
        chance = random.Random(262)
        for _ in range(30):
            book = safe_book(chance, many=3)
            book = put(book, drawn_reserves(chance, book))
            machine = Machine(book)
            for _ in range(chance.randint(1, 9)):
                machine.step(handed=drawn_dict(chance, book.names(), 4))
            station, tick = chance.choice(book.network.names()), machine.tick
            fail(machine, station)
            self.assertTrue(machine.book() == after(book, station, tick))
            self.assertEqual(machine.tick, tick)
            self.assertEqual(machine.units(station), [])


class TestLost(unittest.TestCase):
    def test_units_everywhere(self):
        # One that is held at r, one on the way to q, two at p, and one that has left q.
        machine = run(line(length=2), 10, faults=[Hold("x", 1, 2, 9)], x=[1, 1, 0, 0, 0, 1, 0, 0, 1, 1])
        places = {number: station for station in "pqr" for _, number, _, _ in machine.units(station)}
        arrived = [number for number, tick in enumerate(machine.arrivals("x")) if tick is not None]
        expected = [("x", number, places.get(number)) for number in range(5) if number not in arrived]
        self.assertIn(None, [place for _, _, place in expected])
        self.assertIn("p", [place for _, _, place in expected])
        self.assertEqual(fail(machine, "q"), expected)
        self.assertEqual(machine.lost("x"), [number for _, number, _ in expected])
        self.assertEqual(machine.units("q"), [])
        for _ in range(30):
            machine.step(handed={"x": 1})
        self.assertEqual([machine.late(), machine.units("p"), machine.units("r")], [[], [], []])
        self.assertEqual([machine.waiting("x"), sum(machine.entered("x"))], [30, 5])

    def test_with_and_without_a_place(self):
        machine = run(line(capacity=2), 4, x=[1, 0, 0, 1])
        # Number 0 leaves p behind tick 2 and is at q in tick 3; number 1 is at p.
        self.assertEqual(fail(machine, "r"), [("x", 0, "q"), ("x", 1, "p")])
        self.assertEqual([machine.units("p"), machine.units("q")], [[("x", 1, 6, True)], [("x", 0, 6, True)]])
        machine = run(line(capacity=2, length=1), 3, x=[1, 0, 0])
        self.assertEqual(fail(machine, "r"), [("x", 0, None)])
        self.assertEqual([machine.units("p"), machine.units("q")], [[], []])
        for _ in range(9):
            machine.step()
        self.assertEqual([machine.released("q"), machine.lost("x"), machine.arrivals("x")], [[], [0], [None]])

    def test_units_and_blanks_at_the_failed_station(self):
        book = forced(Book(Network([Station("p", 0, 9), Station("q", 1, 9)])), "x", ONE, ["p"], [9])
        machine = run(forced(book, "y", ONE, ["p"], [9]), 3, x=[1, 1, 1], y=[1, 0, 0])
        self.assertEqual(machine.drop("x"), [(0, "p"), (1, "p"), (2, "p")])
        machine.step(handed={"x": 1})
        self.assertEqual(len(machine.units("p")), 5)
        self.assertEqual(fail(machine, "p"), [("x", 3, "p"), ("y", 0, "p")])
        self.assertEqual([machine.units("p"), machine.lost("x"), machine.lost("y")], [[], [0, 1, 2, 3], [0]])
        machine.step()
        self.assertEqual([machine.units("p"), machine.late(), len(machine.released("p"))], [[], [], 5])

    def test_late_units_stay_late(self):
        book = forced(Book(Network([Station("p", 1, 9)])), "x", Curve([4], gain=0), ["p"], [1])
        machine = run(book, 2, x=[4])
        before = machine.late()
        self.assertEqual(before, [(1, "p", "x", number) for number in (1, 2, 3)])
        self.assertEqual(fail(machine, "p"), [("x", 2, "p"), ("x", 3, "p")])
        machine.step()
        self.assertEqual([machine.late(), machine.served("p")], [before, [(0, "x", 0), (1, "x", 1)]])

    def test_units_at_the_police(self):
        book = put(forced(ring(), "x", ONE, ["p"], [1]), {"x": (["q", "r"], [1, 1])})
        machine = run(book, 3, queue=7, x=[9, 0, 0])
        self.assertEqual([machine.waiting("x"), machine.sent_back("x")], [5, 1])
        self.assertEqual(fail(machine, "p"), [])
        for _ in range(9):
            machine.step()
        self.assertEqual([machine.entered("x"), machine.waiting("x")], [[1] * 8 + [0] * 4, 0])
        self.assertEqual(machine.arrivals("x"), [1, 2, 3, 5, 6, 7, 8, 9])
        self.assertEqual([tick for tick, _, _ in machine.released("q")], [3, 4, 5, 6, 7])
        # Without a reserve, or with one that passes the station too, they wait for ever.
        for reserve in ({}, {"x": (["q", "p"], [1, 1])}):
            machine = run(put(forced(ring(), "x", ONE, ["p"], [1]), reserve), 3, x=[9, 0, 0])
            fail(machine, "p")
            for _ in range(9):
                machine.step(handed={"x": 1})
            self.assertEqual([machine.entered("x"), machine.waiting("x")], [[1] * 3 + [0] * 9, 15])

    def test_loose_units_wait_on(self):
        machine = run(ring(capacity=1), 1)
        machine.step(loose={"p": 5, "q": 5})
        self.assertEqual(machine.loose("p"), (4, [0, 1]))
        fail(machine, "p")
        machine.step(loose={"p": 2})
        machine.step()
        self.assertEqual([machine.loose("p"), machine.loose("q")], [(6, [0, 1, 0, 0]), (2, [0, 1, 1, 1])])

    def test_several_streams(self):
        book = ring(capacity=9)
        for name, path in [("c", ["p", "q"]), ("a", ["r"]), ("b", ["q"]), ("d", ["r", "p"])]:
            book = forced(book, name, Curve([3], gain=3), path, [5] * len(path))
        machine = run(book, 2, a=[1, 1], b=[2], c=[1, 1], d=[2])
        self.assertEqual(fail(machine, "p"), [("c", 0, "p"), ("c", 1, "p"), ("d", 0, "r"), ("d", 1, "r")])
        self.assertEqual([machine.lost(name) for name in "abcd"], [[], [], [0, 1], [0, 1]])
        self.assertEqual([len(machine.units(station)) for station in "pqr"], [0, 2, 4])

    def test_stations_that_are_not_marked(self):
        self.assertFalse(line().network.find("p").may_fail)
        machine = run(line(), 1, x=[1], y=[1])
        self.assertEqual(fail(machine, "p"), [("x", 0, "p")])
        self.assertEqual(machine.book().supply_of("p").changes(), [(1, 0)])


class TestErrors(unittest.TestCase):
    def refuse(self, machine, error, station, value=None):
        before = told_by(machine)
        with self.assertRaises(error) as caught:
            fail(machine, station)
        self.assertIs(type(caught.exception), error)
        if error is not errors.NotPlain:
            self.assertEqual(caught.exception.value, value)
            self.assertIs(type(caught.exception.value), type(value))
        self.assertEqual(told_by(machine), before)

    def test_errors(self):
        ended, changed = line(capacity=2), line(capacity=2)
        end_stream(ended, "y", 5)
        change_capacity(changed, "q", 5, 9)
        for book in (line(), ended, changed):
            for name in NO_NAMES + ["x", "s"]:
                self.refuse(Machine(book), errors.UnknownStation, name, name)
                self.refuse(run(book, 2), errors.UnknownStation, name, name)
            self.refuse(Machine(book), errors.InvalidTick, "p", 0)
            if book is not ended and book is not changed:
                self.assertEqual(fail(run(book, 1), "p"), [])
            else:
                self.refuse(run(book, 1, x=[1]), errors.NotPlain, "p")

    def test_a_second_failure(self):
        machine = run(line(), 3, x=[1, 1, 1], y=[1])
        fail(machine, "q")
        for station in "pqr":
            self.refuse(machine, errors.NotPlain, station)
        machine.step()
        self.refuse(machine, errors.NotPlain, "q")
        # A station that no stream passes and that serves nothing changes nothing, so another one may fail after it.
        book = forced(Book(Network([Station("p", 0, 9), Station("q", 1, 9)])), "x", ONE, ["q"], [1])
        machine = run(book, 2, x=[1, 1])
        self.assertEqual(fail(machine, "p"), [])
        self.assertTrue(machine.book() == book)
        self.assertEqual(fail(machine, "q"), [("x", 1, "q")] if machine.units("q") else [])
        self.refuse(machine, errors.NotPlain, "p")


class TestOneFailure(unittest.TestCase):
    def protected_books(self, many, seed):
        """Return protected books, most of them with reserves."""
        chance = random.Random(seed)
        found = []
        while len(found) < many:
            book = drawn_tight(chance, chance.randint(1, 3)) if chance.randint(0, 1) else safe_book(chance, many=3)
            reserves = drawn_reserves(chance, book, 6)
            if not any(book.network.find(name).may_fail for name in book.network.names()):
                continue
            if reserves and find_danger(put(book, reserves)) is None:
                found.append(with_reserves(book, reserves))
        return found

    def check(self, book, rows, ticks, failed, at):
        """Let a station fail at a tick; check all units that are not lost; return how many went another way."""
        machine = Machine(book)
        told = []
        for tick in range(ticks):
            if tick == at:
                told = fail(machine, failed)
            machine.step(handed={name: rows[name][tick] for name in book.names()})
        lost = {(name, number) for name, number, _ in told}
        self.assertEqual([machine.late(), machine.full()], [[], None])
        turned = 0
        for name in book.names():
            _, _, path, split = book.lives_of(name)[0]
            reserve = book.reserve_of(name)
            ways = [(path, split)] if failed not in path else [(path, split), reserve]
            number = 0
            for tick, units in enumerate(machine.entered(name)):
                for _ in range(units):
                    way = ways[0] if tick < at or len(ways) == 1 else ways[1]
                    turned += way is reserve
                    total = tick + sum(way[1]) + sum(book.network.link(*ends) for ends in zip(way[0], way[0][1:]))
                    expected = total if total <= ticks and (name, number) not in lost else None
                    self.assertEqual(machine.arrivals(name)[number], expected)
                    if (name, number) in lost:
                        self.assertTrue(failed in path and tick < at and total > at)
                    elif failed in path and tick < at:
                        self.assertLessEqual(total, at)
                    number += 1
        self.assertEqual(lost, {(name, number) for name in book.names() for number in machine.lost(name)})
        return turned

    def test_each_station_and_tick(self):
        chance = random.Random(263)
        turned = 0
        for book in self.protected_books(25, 264):
            rows = {name: [chance.randint(0, 4) for _ in range(40)] for name in book.names()}
            for failed in [name for name in book.network.names() if book.network.find(name).may_fail]:
                for at in range(1, 16):
                    turned += self.check(book, rows, 40, failed, at)
        self.assertGreater(turned, 1000)

    def test_greedy_streams(self):
        chance = random.Random(265)
        for book in self.protected_books(25, 266):
            for _ in range(6):
                delays = {name: chance.choice([0, 0, 1, 2, 4]) for name in book.names()}
                rows = {name: [0] * delays[name] + greedy(book.curve_of(name), 40) for name in book.names()}
                failed = chance.choice([name for name in book.network.names() if book.network.find(name).may_fail])
                self.check(book, rows, 36, failed, chance.randint(1, 14))

    def test_other_streams_as_without_a_failure(self):
        chance = random.Random(267)
        for book in self.protected_books(15, 268):
            rows = [drawn_dict(chance, book.names(), 4) for _ in range(30)]
            failed = chance.choice([name for name in book.network.names() if book.network.find(name).may_fail])
            one, two = Machine(book), Machine(book)
            for tick, handed in enumerate(rows):
                if tick == 7:
                    fail(two, failed)
                one.step(handed=handed)
                two.step(handed=handed)
            for name in book.names():
                if failed not in book.lives_of(name)[0][2]:
                    for ask in ("entered", "arrivals", "waiting", "sent_back"):
                        self.assertEqual(getattr(one, ask)(name), getattr(two, ask)(name))

    def test_faults_go_on(self):
        machine = run(line(), 2, faults=[Idle("r", 4, 1), Leak("y", 3, 2)], x=[1], y=[1])
        fail(machine, "q")
        for _ in range(6):
            machine.step(handed={"y": 3})
        self.assertEqual(machine.entered("y")[3], 3)
        self.assertNotIn(4, [tick for tick, _, _ in machine.served("r")])
        self.assertEqual([fault.kind() for fault in machine.faults()], ["idle", "leak"])

    def test_clones_after_failures(self):
        chance = random.Random(269)
        for _ in range(15):
            book = safe_book(chance, many=3)
            machine = Machine(put(book, drawn_reserves(chance, book)))
            for _ in range(6):
                machine.step(handed=drawn_dict(chance, book.names(), 4))
            twin = machine.clone()
            before = told_by(twin)
            fail(machine, chance.choice(book.network.names()))
            self.assertEqual(told_by(twin), before)
            other = machine.clone()
            for _ in range(8):
                handed = drawn_dict(chance, book.names(), 4)
                machine.step(handed=handed)
                other.step(handed=handed)
            self.assertEqual(told_by(machine), told_by(other))


if __name__ == "__main__":
    unittest.main()
