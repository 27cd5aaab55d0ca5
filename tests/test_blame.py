"""Breaches and chains by the plain restatement, and BLAME."""

import random
import unittest

import dueways.errors as errors
from dueways.blame import breaches, chain
from dueways.book import Book
from dueways.changes import change_capacity
from dueways.curves import Curve
from dueways.faults import Hold, Idle, Leak, Swap
from dueways.machine import Machine
from dueways.network import Network, Station
from dueways.reserves import fail
from dueways.runs import forced
from made import any_book, safe_book
from plain import NO_COUNTS
from plain_blame import BlamedMachine
from plain_machine import told_by
from test_changes import NO_NAMES, ONE
from test_changes_on_the_way import changed
from test_machine import drawn_dict, drawn_faults
from test_machine_changes import going_on
from test_reserves import drawn_reserves, put


def run(book, ticks, faults=(), **handed):
    """Return a machine and the plain one after so many ticks."""
    machine, plain = Machine(book, faults=faults), BlamedMachine(book, 60, faults)
    for tick in range(ticks):
        units = {name: row[tick] for name, row in handed.items() if tick < len(row)}
        machine.step(handed=units)
        plain.step(units, {})
    return machine, plain


def line(capacity=1, times=(1, 1), length=0, new=ONE):
    """Return a book of two stations with a stream x through both."""
    book = Book(Network([Station("p", capacity, 50), Station("q", capacity, 50)], [("p", "q", length)]))
    return forced(book, "x", new, ["p", "q"], list(times))


class Case(unittest.TestCase):
    def check(self, machine, plain):
        """Compare all breaches and all chains; return the chains."""
        before = told_by(machine)
        told = breaches(machine)
        self.assertEqual(told, plain.breaches())
        told.append(None)
        self.assertEqual(breaches(machine=machine), plain.breaches())
        chains = []
        for _, station, stream, number in machine.late():
            found = chain(machine, station, stream, number)
            self.assertEqual(found, plain.chain(station, stream, number))
            self.assertEqual(found[0], (station, stream, number))
            chains.append(found)
        if chains:
            chains[0].append(None)
            _, station, stream, number = machine.late()[0]
            chains[0] = chain(machine=machine, station=station, stream=stream, number=number)
        self.assertEqual(told_by(machine), before)
        return chains


class TestByThePlainMachine(Case):
    def test_books_that_are_not_safe(self):
        chance = random.Random(281)
        ends, lengths = [], []
        for number in range(90):
            book = any_book(chance)
            faults = drawn_faults(chance, book, 6) if number % 3 else []
            machine, plain = Machine(book, queue=9, faults=faults), BlamedMachine(book, 9, faults)
            for tick in range(18):
                handed, loose = drawn_dict(chance, book.names(), 4), drawn_dict(chance, book.network.names(), 2)
                machine.step(handed=handed, loose=loose)
                plain.step(handed, loose)
                if tick in (0, 5, 11, 17):
                    chains = self.check(machine, plain)
            ends += [found[-1][0] for found in chains]
            lengths += [len(found) for found in chains]
        self.assertEqual(set(ends), {"police", "hold", "station", "book"})
        self.assertGreater(max(lengths), 3)

    def test_safe_books(self):
        chance = random.Random(282)
        ends = []
        for _ in range(110):
            book = safe_book(chance, latest=2)
            if not book.names():
                continue
            faults = drawn_faults(chance, book, chance.randint(1, 7))
            machine, plain = Machine(book, faults=faults), BlamedMachine(book, 60, faults)
            for _ in range(22):
                handed = drawn_dict(chance, book.names(), 4)
                machine.step(handed=handed)
                plain.step(handed, {})
            for found in self.check(machine, plain):
                ends.append(found[-1][0])
                self.assertIn(found[-1], breaches(machine))
        self.assertEqual(set(ends), {"police", "hold", "station"})

    def test_books_that_are_used_on_the_way(self):
        chance = random.Random(283)
        seen = 0
        for number in range(60):
            book = any_book(chance) if number % 2 else safe_book(chance, many=3)
            faults = drawn_faults(chance, book, 5) if book.names() else []
            machine, plain = Machine(book, faults=faults), BlamedMachine(book, 60, faults)
            for tick in range(20):
                if chance.randint(0, 4) == 0:
                    now = going_on(chance, machine.book(), tick) if number % 2 else machine.book()
                    if number % 2 == 0:
                        changed(chance, now, tick)
                    if max([len(now.lives_of(name)) for name in now.names()], default=0) <= 4:
                        machine.use(now)
                        plain.use(now)
                handed = drawn_dict(chance, machine.book().names(), 4)
                machine.step(handed=handed)
                plain.step(handed, {})
            seen += len(self.check(machine, plain))
        self.assertGreater(seen, 60)

    def test_failures_of_stations(self):
        # Of a machine in which no stream was dropped: the failed station has nothing to do.
        chance = random.Random(284)
        seen = 0
        for _ in range(60):
            book = any_book(chance, many=2, stations=3, changes=False, most=1, latest=0)
            lives = {name: [(0, None, *book.lives_of(name)[0][2:])] for name in book.names()}
            for name in book.names():
                book.put_stream(name, book.curve_of(name), 90, lives[name])
            free = [station for station in book.network.names() if not book.loads_of(station)]
            if not free:
                continue
            faults = drawn_faults(chance, book, 5)
            machine, plain = Machine(book, faults=faults), BlamedMachine(book, 60, faults)
            for tick in range(16):
                if tick == 6:
                    self.assertEqual(fail(machine, free[0]), [])
                    now = machine.book()
                    plain.use(now)
                handed = drawn_dict(chance, book.names(), 4)
                machine.step(handed=handed)
                plain.step(handed, {})
            seen += len(self.check(machine, plain))
        self.assertGreater(seen, 50)

    def test_machines_with_dropped_streams_give_an_answer(self):
        chance = random.Random(285)
        for _ in range(25):
            book = safe_book(chance, many=3)
            book = put(book, drawn_reserves(chance, book))
            machine = Machine(book)
            for tick in range(14):
                if tick == 7:
                    fail(machine, chance.choice(book.network.names()))
                machine.step(handed=drawn_dict(chance, book.names(), 4))
            self.assertIsInstance(breaches(machine), list)


class TestBreaches(Case):
    def breaches(self, book, ticks, faults, **handed):
        machine, plain = run(book, ticks, faults, **handed)
        self.check(machine, plain)
        return breaches(machine)

    def test_polices(self):
        self.assertEqual(self.breaches(line(), 4, [], x=[5]), [])
        self.assertEqual(self.breaches(line(), 4, [Leak("x", 1, 2)], x=[5]), [("police", "x", 1, 1, 2)])
        # Only the first one of the shortest windows is told.
        self.assertEqual(self.breaches(line(), 6, [Leak("x", 1, 2), Leak("x", 3, 9)], x=[9]),
                         [("police", "x", 1, 1, 2)])
        # A leak in a tick without a life, or without units, changes nothing.
        self.assertEqual(self.breaches(line(), 4, [Leak("x", 3, 2)], x=[1]), [])
        self.assertEqual(self.breaches(line(), 4, [Leak("x", 1, 2)], x=[0, 1]), [])
        ended = line()
        ended.put_stream("x", ONE, 9, [(0, 1, ("p",), (1,)), (3, None, ("p",), (1,))])
        self.assertEqual(self.breaches(ended, 6, [Leak("x", 1, 2), Leak("x", 2, 2)], x=[9]), [])

    def test_holds(self):
        faults = [Hold("x", 0, 1, 2), Hold("x", 1, 0, 1), Hold("x", 1, 1, 1), Hold("x", 7, 0, 3), Hold("x", 0, 4, 3)]
        told = self.breaches(line(capacity=9), 9, faults, x=[1, 1])
        # Number 1 comes to q a tick late, and is held there, too.
        self.assertEqual(told, [("hold", "x", 1, "p", 2), ("hold", "x", 0, "q", 3), ("hold", "x", 1, "q", 4)])
        # A unit that is late itself may be held beyond that; one that is held less than it has time is not late.
        self.assertEqual(self.breaches(line(times=(1, 3)), 9, [Hold("x", 0, 1, 2)], x=[1]), [("hold", "x", 0, "q", 3)])
        # What has not been released yet has no tick of release.
        self.assertEqual(self.breaches(line(), 3, [Hold("x", 0, 1, 2)], x=[1]), [])
        self.assertEqual(self.breaches(line(), 4, [Hold("x", 0, 1, 2)], x=[1]), [("hold", "x", 0, "q", 3)])

    def test_holds_in_one_tick(self):
        book = Book(Network([Station("q", 9, 9), Station("p", 9, 9)], [("p", "q", 0), ("q", "p", 0)]))
        book = forced(forced(book, "x", Curve([2], gain=2), ["p", "q"], [1, 1]), "a", ONE, ["q"], [1])
        faults = [Hold("a", 0, 0, 3), Hold("x", 1, 0, 3), Hold("x", 0, 1, 2), Hold("x", 2, 0, 2)]
        self.assertEqual(self.breaches(book, 9, faults, x=[2, 1], a=[1]), [
            ("hold", "x", 0, "q", 3), ("hold", "x", 1, "p", 3), ("hold", "x", 2, "p", 3), ("hold", "a", 0, "q", 3)])

    def test_stations(self):
        two = Curve([2], gain=2)
        idle = self.breaches(line(capacity=2, new=two), 4, [Idle("p", 0, 1)], x=[2])
        self.assertEqual(idle, [("station", "p", 0)])
        # With one unit less capacity one unit is still served; without units nothing is to do.
        self.assertEqual(self.breaches(line(capacity=2, new=two), 4, [Idle("p", 0, 1), Idle("p", 2, 2)], x=[1]), [])
        book = forced(line(capacity=1, times=(3, 1)), "y", ONE, ["p"], [2])
        self.assertEqual(self.breaches(book, 6, [Swap("p", 0)], x=[1], y=[1]), [("station", "p", 0)])
        self.assertEqual(self.breaches(book, 6, [Swap("p", 0)], y=[1]), [])
        # All that wait are served: their sequence does not matter.
        wide = forced(line(capacity=2, times=(3, 1)), "y", ONE, ["p"], [2])
        self.assertEqual(self.breaches(wide, 6, [Swap("p", 0)], x=[1], y=[1]), [])
        # Loose units that get what is left, or do not, do not matter.
        machine, plain = Machine(line(), faults=[Idle("p", 0, 1)]), BlamedMachine(line(), 60, [Idle("p", 0, 1)])
        for one in (machine, plain):
            one.step(handed={}, loose={"p": 3})
        self.check(machine, plain)
        self.assertEqual(breaches(machine), [])

    def test_several_together(self):
        book = forced(line(capacity=1, times=(2, 2)), "a", ONE, ["q"], [3])
        faults = [Idle("q", 5, 1), Idle("p", 5, 1), Swap("q", 2), Leak("a", 3, 2), Leak("x", 4, 1), Hold("a", 1, 0, 1),
                  Hold("x", 0, 0, 1)]
        told = self.breaches(book, 12, faults, x=[1, 1, 1, 1, 2, 1], a=[1, 1, 1, 3, 1, 1])
        kinds = [one[0] for one in told]
        self.assertEqual(kinds, sorted(kinds, key=["police", "hold", "station"].index))
        self.assertEqual(told[:2], [("police", "x", 1, 4, 1), ("police", "a", 1, 3, 2)])
        self.assertEqual([one for one in told if one[0] == "hold"], [("hold", "x", 0, "p", 1), ("hold", "a", 1, "q", 2)])
        ticks = [(one[2], ["p", "q"].index(one[1])) for one in told if one[0] == "station"]
        self.assertEqual(ticks, sorted(ticks))
        self.assertGreater(len(ticks), 2)

    def test_capacities_that_change(self):
        book = line(capacity=2, new=Curve([2], gain=2))
        book.put_changes("p", [(3, 1)])
        # Serving one unit is right from tick 3 on, and wrong before.
        told = self.breaches(book, 9, [Idle("p", 3, 1), Idle("p", 2, 1)], x=[0, 2, 2, 0, 0, 2])
        self.assertEqual(told, [("station", "p", 2), ("station", "p", 3)])
        machine, plain = run(line(capacity=2, new=Curve([2], gain=2)), 4, x=[1] * 4)
        now = machine.book()
        change_capacity(now, "q", 5, 3)
        machine.use(now)
        plain.use(now)
        for _ in range(5):
            machine.step(handed={"x": 2})
            plain.step({"x": 2}, {})
        self.check(machine, plain)
        self.assertEqual(breaches(machine), [])

    def test_a_machine_that_has_done_nothing(self):
        self.assertEqual(breaches(Machine(line())), [])
        self.assertEqual(breaches(Machine(line(), faults=[Idle("p", 0, 1), Leak("x", 0, 1)])), [])


class TestBlame(Case):
    def parts(self, chance, book):
        """Return faults of one part of a book only, and with what each breach of this part begins."""
        kind = chance.choice(["station", "police", "hold"])
        station, stream = chance.choice(book.network.names()), chance.choice(book.names())
        if kind == "station":
            faults = [chance.choice([Idle(station, chance.randint(0, 14), chance.randint(1, 3)),
                                     Swap(station, chance.randint(0, 14))]) for _ in range(6)]
            return faults, (kind, station)
        if kind == "police":
            return [Leak(stream, chance.randint(0, 14), chance.randint(1, 4)) for _ in range(3)], (kind, stream)
        return [Hold(stream, chance.randint(0, 9), chance.randint(0, 2), chance.randint(1, 9)) for _ in range(4)], \
            (kind, stream)

    def test_one_part(self):
        chance = random.Random(286)
        ends = []
        for number in range(240):
            book = safe_book(chance, many=5, latest=chance.choice([0, 3]))
            if not book.names():
                continue
            faults, part = self.parts(chance, book)
            machine, plain = Machine(book, faults=faults), BlamedMachine(book, 60, faults)
            for _ in range(24):
                handed = drawn_dict(chance, book.names(), 5)
                machine.step(handed=handed)
                plain.step(handed, {})
            for found in self.check(machine, plain):
                self.assertEqual(found[-1][:2], part)
                self.assertIn(found[-1], breaches(machine))
                ends.append(part[0])
                dues = [plain.find(*link)["due"] for link in found[:-1]]
                self.assertEqual(dues, sorted(set(dues), reverse=True))
        self.assertGreater(min(ends.count(kind) for kind in ("station", "police", "hold")), 20)

    def test_no_faults(self):
        chance = random.Random(287)
        for _ in range(30):
            book = safe_book(chance, many=5, latest=3)
            machine = Machine(book)
            for _ in range(24):
                machine.step(handed=drawn_dict(chance, book.names(), 5))
            self.assertEqual([machine.late(), breaches(machine)], [[], []])

    def test_who_kept_its_duty_is_never_blamed(self):
        chance = random.Random(288)
        for _ in range(60):
            book = safe_book(chance, many=4)
            if not book.names():
                continue
            faults = drawn_faults(chance, book, 3)
            parts = {(fault.kind(), getattr(fault, "station", None) or fault.stream) for fault in faults}
            machine = Machine(book, faults=faults)
            for _ in range(22):
                machine.step(handed=drawn_dict(chance, book.names(), 5))
            for _, station, stream, number in machine.late():
                end = chain(machine, station, stream, number)[-1]
                kinds = {"police": ["leak"], "hold": ["hold"], "station": ["idle", "swap"]}[end[0]]
                self.assertTrue(any((kind, end[1]) in parts for kind in kinds))


class TestErrors(Case):
    def refuse(self, machine, error, value, *asked):
        before = told_by(machine)
        with self.subTest(asked), self.assertRaises(error) as caught:
            chain(machine, *asked)
        self.assertIs(type(caught.exception), error)
        self.assertEqual(caught.exception.value, value)
        self.assertIs(type(caught.exception.value), type(value))
        self.assertEqual(told_by(machine), before)

    def test_errors(self):
        book = forced(line(), "y", ONE, ["q"], [9])
        machine, _ = run(book, 6, [Idle("p", 0, 1)], x=[1, 1], y=[1])
        self.assertEqual(machine.late()[0], (1, "p", "x", 0))
        for station in NO_NAMES + ["x", "r"]:
            self.refuse(machine, errors.UnknownStation, station, station, "z", -1)
            self.refuse(machine, errors.UnknownStation, station, station, "x", 0)
        for stream in NO_NAMES + ["p", "z"]:
            self.refuse(machine, errors.UnknownStream, stream, "p", stream, -1)
            self.refuse(machine, errors.UnknownStream, stream, "p", stream, 0)
        for number in NO_COUNTS + [2, 10 ** 9]:
            self.refuse(machine, errors.UnknownUnit, number, "p", "x", number)
        self.refuse(machine, errors.UnknownUnit, 1, "q", "y", 1)
        # In time, or not at this station at all.
        self.refuse(machine, errors.NotLate, 0, "q", "y", 0)
        self.refuse(machine, errors.NotLate, 0, "p", "y", 0)
        late, _ = run(book, 1, [Idle("p", 0, 1)], x=[1, 1])
        self.refuse(late, errors.NotLate, 0, "q", "x", 0)
        self.assertEqual(chain(late, "p", "x", 0), [("p", "x", 0), ("station", "p", 0)])
        self.refuse(Machine(book), errors.UnknownUnit, 0, "p", "x", 0)


if __name__ == "__main__":
    unittest.main()
