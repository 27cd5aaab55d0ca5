"""Accounts: what entered, what was needed, and which units a fault made late."""

import random
import unittest

import dueways.errors as errors
from dueways.accounts import needed, own_curve, spared
from dueways.book import Book
from dueways.curves import Curve
from dueways.faults import Hold, Idle, Leak, Swap
from dueways.machine import Machine
from dueways.network import Network, Station
from dueways.records import keeps, tightest
from dueways.runs import forced
from made import any_book, safe_book
from plain import NO_COUNTS, windows
from plain_machine import PlainMachine, told_by
from test_changes import NO_NAMES, ONE
from test_machine import drawn_dict, drawn_faults


def one_station(capacity=1, time=1, new=ONE):
    return forced(Book(Network([Station("p", capacity, 50)])), "x", new, ["p"], [time])


def run(machine, rows):
    for row in rows:
        machine.step(handed=row)
    return machine


class TestOwnCurve(unittest.TestCase):
    def test_by_counting(self):
        chance = random.Random(291)
        for _ in range(30):
            book = any_book(chance)
            machine = run(Machine(book, faults=drawn_faults(chance, book, 3)),
                          [drawn_dict(chance, book.names(), 4) for _ in range(chance.randint(0, 14))])
            before = told_by(machine)
            for name in book.names():
                record = machine.entered(name)
                curve = own_curve(machine=machine, stream=name)
                self.assertIsInstance(curve, Curve)
                self.assertTrue(curve.is_good() and keeps(record, curve))
                for length in range(1, 30):
                    most = max(windows(record, length)) if record else 0
                    self.assertEqual(curve.at(length), most)
                self.assertEqual(curve, tightest(record))
            self.assertEqual(told_by(machine), before)

    def test_small_ones(self):
        self.assertEqual(own_curve(Machine(one_station()), "x"), Curve([0]))
        self.assertEqual(own_curve(run(Machine(one_station()), [{"x": 9}] * 3), "x"), Curve([1, 2, 3], gain=0))
        machine = run(Machine(one_station(), faults=[Leak("x", 1, 2)]), [{"x": 9}] * 3)
        self.assertEqual(own_curve(machine, "x"), Curve([3, 4], gain=0))

    def test_errors(self):
        machine = Machine(one_station())
        for name in NO_NAMES + ["p", "y"]:
            with self.subTest(name), self.assertRaises(errors.UnknownStream) as caught:
                own_curve(machine, name)
            self.assertIs(caught.exception.value, name)


class TestNeeded(unittest.TestCase):
    def test_by_counting(self):
        chance = random.Random(292)
        found = []
        for _ in range(40):
            book = any_book(chance)
            machine = Machine(book, faults=drawn_faults(chance, book, 3))
            for _ in range(chance.randint(0, 14)):
                machine.step(handed=drawn_dict(chance, book.names(), 4), loose=drawn_dict(chance, book.network.names(), 4))
            for station in book.network.names():
                ticks = [tick for tick, _, _ in machine.served(station)]
                most = max([ticks.count(tick) for tick in range(machine.tick)], default=0)
                self.assertEqual(needed(machine=machine, station=station), most)
                found.append(most)
        self.assertEqual(set(found) & {0, 1, 2, 3}, {0, 1, 2, 3})

    def test_loose_units_do_not_matter(self):
        machine = Machine(one_station(capacity=9))
        for _ in range(3):
            machine.step(handed={"x": 3}, loose={"p": 9})
        self.assertEqual([needed(machine, "p"), machine.loose("p")[1]], [1, [8, 8, 8]])
        self.assertEqual(needed(Machine(one_station()), "p"), 0)

    def test_what_would_have_been_enough(self):
        # With a capacity of what was needed a machine does the same.
        chance = random.Random(293)
        for _ in range(20):
            book = safe_book(chance, many=4)
            rows = [drawn_dict(chance, book.names(), 4) for _ in range(20)]
            machine = run(Machine(book), rows)
            stations = [book.network.find(name) for name in book.network.names()]
            less = Network([Station(one.name, needed(machine, one.name), one.room, may_fail=one.may_fail)
                            for one in stations], book.network.links())
            twin = Book(less)
            for name in book.names():
                twin.put_stream(name, book.curve_of(name), 90, book.lives_of(name))
            self.assertEqual(told_by(run(Machine(twin), rows)), told_by(machine))

    def test_errors(self):
        machine = Machine(one_station())
        for name in NO_NAMES + ["x", "q"]:
            with self.subTest(name), self.assertRaises(errors.UnknownStation) as caught:
                needed(machine, name)
            self.assertIs(caught.exception.value, name)


class TestSpared(unittest.TestCase):
    def test_by_a_second_machine(self):
        chance = random.Random(294)
        sizes = []
        for number in range(90):
            book = any_book(chance) if number % 2 else safe_book(chance, latest=1)
            if not book.names():
                continue
            faults = drawn_faults(chance, book, 5)
            rows = [drawn_dict(chance, book.names(), 4) for _ in range(18)]
            machine = run(Machine(book, queue=4, faults=faults), rows)
            before = told_by(machine)
            for index in range(len(faults)):
                plain = PlainMachine(book, 4, faults[:index] + faults[index + 1:])
                for row in rows:
                    plain.step(row, {})
                still = [one[1:] for one in plain.late()]
                expected = [one for one in machine.late() if one[1:] not in still]
                told = spared(machine=machine, index=index)
                self.assertEqual(told, expected)
                sizes.append(len(told))
                told.append(None)
                self.assertEqual(spared(machine, index), expected)
            self.assertEqual(told_by(machine), before)
        self.assertGreater(sizes.count(0), 50)
        self.assertGreater(len([size for size in sizes if size > 1]), 40)

    def test_faults_of_each_kind(self):
        book = forced(one_station(time=2), "y", Curve([1], gain=0), ["p"], [3])
        row = {"x": 1, "y": 1}
        for faults, late in [([Hold("x", 0, 0, 4)], [(2, "p", "x", 0)]), ([Idle("p", 0, 1), Idle("p", 1, 1)], None),
                             ([Swap("p", 0), Idle("p", 1, 1)], [(2, "p", "x", 0)]),
                             ([Leak("y", 0, 2)], [(3, "p", "y", 2)])]:
            machine = run(Machine(book, faults=faults), [{**row, "y": 3}] + [{}] * 8)
            told = machine.late()
            if late is not None:
                self.assertEqual(told, late)
            self.assertTrue(told)
            self.assertEqual(spared(machine, 0), told)

    def test_a_fault_without_effect(self):
        faults = [Swap("p", 5), Idle("p", 0, 1), Hold("x", 7, 0, 4), Leak("x", 8, 1)]
        machine = run(Machine(one_station(), faults=faults), [{"x": 1}] + [{}] * 8)
        self.assertEqual(machine.late(), [(1, "p", "x", 0)])
        self.assertEqual([spared(machine, index) for index in range(4)], [[], [(1, "p", "x", 0)], [], []])

    def test_units_that_enter_otherwise(self):
        # Without the leak number 1 enters a tick later, and is not late; number 2 then has not entered at all.
        machine = run(Machine(one_station(), faults=[Leak("x", 0, 2)]), [{"x": 3}, {}])
        self.assertEqual(machine.entered("x"), [3, 0])
        self.assertEqual(machine.late(), [(1, "p", "x", 1), (1, "p", "x", 2)])
        self.assertEqual(spared(machine, 0), [(1, "p", "x", 1), (1, "p", "x", 2)])
        # A unit is the same one if its number is, though it enters in another tick, with another due.
        machine = run(Machine(one_station(), queue=60, faults=[Leak("x", 0, 1), Idle("p", 1, 1), Idle("p", 2, 1)]),
                      [{"x": 2}, {}, {}, {}])
        self.assertEqual(machine.late(), [(1, "p", "x", 1)])
        self.assertEqual([spared(machine, index) for index in range(3)], [[], [], []])

    def test_only_late_so_far(self):
        # Without the fault the unit comes later, and is not late yet.
        faults = [Leak("x", 0, 1)] + [Idle("p", tick, 1) for tick in range(1, 4)]
        machine = run(Machine(one_station(), faults=faults), [{"x": 2}])
        self.assertEqual([machine.late(), spared(machine, 0)], [[(1, "p", "x", 1)]] * 2)
        machine.step()
        self.assertEqual(spared(machine, 0), [])

    def test_the_same_queue(self):
        # Without the leak number 1 waits and is late then, or it is returned.
        faults = [Leak("x", 0, 1), Idle("p", 1, 1), Idle("p", 2, 1)]
        for queue, expected in [(0, [(1, "p", "x", 1)]), (60, [])]:
            machine = run(Machine(one_station(), queue=queue, faults=faults), [{"x": 2}, {}, {}])
            self.assertEqual(machine.late(), [(1, "p", "x", 1)])
            self.assertEqual(spared(machine, 0), expected)

    def test_clones(self):
        machine = run(Machine(one_station(), faults=[Idle("p", 0, 1), Idle("p", 1, 1)]), [{"x": 1}])
        twin = machine.clone()
        machine.step()
        twin.step(handed={"x": 1})
        self.assertEqual(twin.late(), [(1, "p", "x", 0), (2, "p", "x", 1)])
        self.assertEqual([spared(machine, 0), spared(machine, 1)], [[(1, "p", "x", 0)], []])
        self.assertEqual([spared(twin, 0), spared(twin, 1)], [[(1, "p", "x", 0)], []])

    def test_equal_faults(self):
        machine = run(Machine(one_station(capacity=2, new=Curve([2], gain=2)), faults=[Idle("p", 0, 1)] * 2),
                      [{"x": 2}, {}])
        self.assertEqual(machine.late(), [(1, "p", "x", 0), (1, "p", "x", 1)])
        self.assertEqual([spared(machine, 0), spared(machine, 1)], [[(1, "p", "x", 0)]] * 2)

    def test_errors(self):
        machine = run(Machine(one_station(), faults=[Idle("p", 0, 1), Idle("p", 1, 1)]), [{"x": 1}] * 3)
        before = told_by(machine)
        for index in NO_COUNTS + [2, 10 ** 9]:
            with self.subTest(index), self.assertRaises(errors.InvalidCount) as caught:
                spared(machine, index)
            self.assertIs(caught.exception.value, index)
        with self.assertRaises(errors.InvalidCount):
            spared(Machine(one_station()), 0)
        self.assertEqual(told_by(machine), before)

    def test_what_was_handed_in_may_be_changed(self):
        machine, row = Machine(one_station(), faults=[Idle("p", 0, 1)]), {"x": 1}
        machine.step(handed=row)
        row["x"] = 9
        row.clear()
        machine.step()
        self.assertEqual(spared(machine, 0), machine.late())
        machine.faults().clear()
        self.assertEqual(len(machine.faults()), 1)


if __name__ == "__main__":
    unittest.main()
