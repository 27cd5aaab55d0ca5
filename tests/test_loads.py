"""Loads: demands, matchings and the records that reach them."""

import random
import unittest

import plain_loads
from dueways.curves import Curve
from dueways.errors import InvalidVisits, InvalidWindow, NotGood
from dueways.loads import Load, Visit, demand, full_record, matching
from plain import NO_COUNTS, NO_INTEGERS, row

GOOD = plain_loads.good_writings()
BAD = Curve([1, 3])


def made(writing, visits):
    """Return the load that is written so."""
    values, period, gain = writing
    return Load(Curve(values, period=period, gain=gain),
                [Visit(time, shift=shift, begin=begin, end=end) for time, shift, begin, end in visits])


def drawn_visits(chance, most=4, latest=6):
    """Return some visits, with gaps, overlaps and equal ones among them."""
    visits = []
    for _ in range(chance.randint(1, most)):
        begin = chance.randint(0, latest)
        end = chance.choice([None, begin, begin + chance.randint(1, latest)])
        visits.append((chance.choice([1, 1, 2, 3, 12]), chance.randint(0, 4), begin, end))
        if chance.randint(0, 5) == 0:
            visits.append(visits[-1])
    return visits[:most]


def drawn(many, latest=6, seed=1):
    """Return a list of many (writing, numbers, visits)."""
    chance = random.Random(seed)
    found = []
    for _ in range(many):
        writing = chance.choice(GOOD)
        found.append((writing, row(writing, plain_loads.LATEST + 5), drawn_visits(chance, latest=latest)))
    return found


class TestLoads(unittest.TestCase):
    def position(self, visits):
        with self.assertRaises(InvalidVisits) as caught:
            Load(Curve([1]), visits)
        return caught.exception.position

    def test_values(self):
        visits = [Visit(1), Visit(2, shift=3)]
        curve = Curve([2, 2], period=2, gain=1)
        load = Load(curve=curve, visits=visits)
        self.assertEqual(load.curve, curve)
        self.assertEqual(load.visits(), visits)
        self.assertIsInstance(load.visits(), list)

    def test_copies(self):
        visits = [Visit(1), Visit(2)]
        load = Load(Curve([1]), visits)
        visits.append(Visit(3))
        visits[0] = None
        self.assertEqual(load.visits(), [Visit(1), Visit(2)])
        load.visits().clear()
        self.assertEqual(load.visits(), [Visit(1), Visit(2)])
        self.assertEqual(visits, [None, Visit(2), Visit(3)])

    def test_limits(self):
        self.assertEqual(len(Load(Curve([1]), [Visit(1)] * 4).visits()), 4)
        self.assertEqual([self.position([]), self.position([Visit(1)] * 5)], [0, 0])

    def test_wrong_visits(self):
        for value in NO_COUNTS + [1, (Visit(1),)]:
            with self.subTest(value):
                self.assertEqual(self.position(value), 0)
                self.assertEqual(self.position([Visit(1), value]), 1)
                self.assertEqual(self.position([Visit(1), Visit(1), value, None]), 2)
        self.assertEqual(self.position(Visit(1)), 0)

    def test_a_curve_that_is_not_good(self):
        for visits in ([Visit(1)], [], None):
            with self.assertRaises(NotGood) as caught:
                Load(BAD, visits)
            self.assertEqual((caught.exception.first, caught.exception.second), (1, 1))

    def test_equal_loads_are_independent(self):
        one, two = Load(Curve([1]), [Visit(1)]), Load(Curve([1]), [Visit(2)])
        self.assertEqual([demand(one, 0, 1), demand(two, 0, 1)], [1, 0])


class TestDemands(unittest.TestCase):
    def test_one_visit(self):
        curve = Curve([2, 3], period=1, gain=1)
        load = Load(curve, [Visit(3, shift=2, begin=1, end=5)])
        for start in range(12):
            for end in range(start + 1, 20):
                found = plain_loads.stretch((3, 2, 1, 5), start, end)
                expected = 0 if found is None else curve.at(found[1] - found[0])
                self.assertEqual(demand(load, start, end), expected)

    def test_by_all_matchings(self):
        for writing, numbers, visits in drawn(400):
            load = made(writing, visits)
            for start in (0, 1, 4, 7):
                for end in (start + 1, start + 3, start + 8, 30):
                    expected = plain_loads.demand((numbers, visits), start, end)
                    self.assertEqual(demand(load, start, end), expected, (writing, visits, start, end))

    def test_by_all_small_records(self):
        seen = 0
        for writing, numbers, visits in drawn(300, latest=3, seed=2):
            start, end = 1, 8
            found = plain_loads.stretches(visits, start, end)
            if numbers[1] <= 2 and found and max(behind for _, behind in found) <= 7:
                seen += len(found) > 1
                self.assertEqual(demand(made(writing, visits), start, end),
                                 plain_loads.most_counted(numbers, found, 7), (writing, visits))
        self.assertGreater(seen, 40)

    def test_gaps_and_overlaps(self):
        curve = Curve([3, 3, 3, 3, 3, 3], period=6, gain=1)
        load = Load(curve, [Visit(1, end=2), Visit(1, begin=4, end=6)])
        self.assertEqual([demand(load, 0, 3), demand(load, 0, 7)], [3, 3])
        load = Load(Curve([1]), [Visit(1), Visit(2, shift=1), Visit(1), Visit(1, shift=2)])
        self.assertEqual([demand(load, 0, 1), demand(load, 0, 3), demand(load, 5, 8)], [2, 4, 4])
        self.assertEqual(demand(Load(Curve([0]), [Visit(1)]), 0, 100), 0)

    def test_great_windows(self):
        load = Load(Curve([2, 3], gain=1), [Visit(1), Visit(2, begin=10, end=20)])
        self.assertEqual(demand(load, 0, 10 ** 15), 10 ** 15 + 1 + 11)
        self.assertEqual(demand(load, 10 ** 15, 10 ** 15 + 4), 5)
        self.assertEqual(demand(load=load, start=0, end=1), 2)


class TestMatchings(unittest.TestCase):
    def test_least_matchings(self):
        for writing, numbers, visits in drawn(300, seed=3):
            load = made(writing, visits)
            for start, end in [(0, 4), (1, 9), (3, 20), (0, 1)]:
                found = plain_loads.stretches(visits, start, end)
                told = matching(load, start, end)
                self.assertEqual([first for first, _ in told], [first for first, _ in found])
                self.assertEqual(sorted(behind for _, behind in told), sorted(behind for _, behind in found))
                self.assertTrue(all(isinstance(match, tuple) for match in told))
                self.assertEqual(sum(plain_loads.cost(numbers, *match) for match in told),
                                 plain_loads.least_cost(numbers, found))

    def test_a_crossed_matching(self):
        load = Load(Curve([3], gain=0), [Visit(1, end=2), Visit(1, begin=4, end=6)])
        self.assertEqual(sorted(matching(load, 0, 7)), [(0, 6), (4, 2)])
        self.assertEqual(matching(load, 0, 1), [(0, 1)])
        self.assertEqual(matching(load, 2, 4), [])

    def test_asked_again(self):
        load = Load(Curve([2], gain=1), [Visit(1), Visit(3, shift=1), Visit(1)])
        told = matching(load=load, start=0, end=9)
        told.clear()
        self.assertEqual(matching(load, 0, 9), matching(load, 0, 9))
        self.assertEqual(len(matching(load, 0, 9)), 3)


class TestFullRecords(unittest.TestCase):
    def test_full_records(self):
        for writing, numbers, visits in drawn(500, seed=4):
            load = made(writing, visits)
            for start, end in [(0, 4), (1, 9), (3, 20), (9, 24), (0, 1)]:
                found = plain_loads.stretches(visits, start, end)
                needed = plain_loads.least_cost(numbers, found)
                tick, record = full_record(load, start, end)
                if needed == 0:
                    self.assertEqual((tick, record), (0, []))
                    continue
                self.assertTrue(all(units >= 0 for units in record))
                self.assertTrue(plain_loads.keeps(record, numbers), (writing, visits, record))
                self.assertEqual(plain_loads.counted(record, found, tick), needed, (writing, visits, start, end))
                for position, units in enumerate(record):
                    self.assertTrue(units == 0 or any(first <= tick + position < behind for first, behind in found))

    def test_one_stretch(self):
        load = Load(Curve([2, 2], period=2, gain=1), [Visit(2, shift=1, begin=3)])
        tick, record = full_record(load, 0, 9)
        self.assertEqual(sum(record), 3)
        self.assertTrue(all(3 <= tick + position < 7 for position, units in enumerate(record) if units))
        self.assertEqual(full_record(load, 0, 5), (0, []))

    def test_new_lists(self):
        load = Load(Curve([2], gain=1), [Visit(1), Visit(2, shift=2)])
        first = full_record(load=load, start=2, end=7)
        again = full_record(load, 2, 7)
        self.assertIsInstance(first, tuple)
        first[1].clear()
        self.assertEqual(full_record(load, 2, 7), again)
        empty = full_record(load, 0, 1)[1]
        empty.append(1)
        self.assertEqual(full_record(Load(Curve([0]), [Visit(1)]), 0, 1), (0, []))


class TestWrongWindows(unittest.TestCase):
    def test_wrong_windows(self):
        load = Load(Curve([0]), [Visit(1)])
        for window in [(0, 0), (3, 2), (-1, 1), *[(value, 9) for value in NO_INTEGERS],
                       *[(0, value) for value in NO_INTEGERS]]:
            for function in (demand, matching, full_record):
                with self.subTest(window), self.assertRaises(InvalidWindow) as caught:
                    function(load, *window)
                self.assertEqual(repr(caught.exception.value), repr(window))


if __name__ == "__main__":
    unittest.main()
