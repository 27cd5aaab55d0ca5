"""Windows: demands and places of several loads, the first overfull window and the first crowded tick."""

import random
import unittest

import plain_loads
from dueways.curves import Curve
from dueways.errors import InvalidCount, InvalidTick, InvalidWindow
from dueways.loads import Load, Visit
from dueways.supply import Supply
from dueways.windows import crowded, demands, full_tick, is_overfull, overfull, places
from plain import NO_COUNTS, NO_INTEGERS, Stranger, row
from test_loads import drawn_visits, made

GOOD = plain_loads.good_writings(most_values=3, greatest=3, most_gain=2)


def drawn_supply(chance, most=4):
    ticks = sorted(chance.sample(range(1, 9), chance.choice([0, 0, 1, 2])))
    return chance.randint(0, most), [(tick, chance.randint(0, most)) for tick in ticks]


def drawn_loads(chance, most_visits, many):
    """Return some (writing, visits)."""
    return [(chance.choice(GOOD), drawn_visits(chance, most=most_visits, latest=4)) for _ in range(many)]


def plain_of(loads):
    return [(row(writing, plain_loads.LATEST + 5), visits) for writing, visits in loads]


def load_of(loads):
    return [made(writing, visits) for writing, visits in loads]


def cases(many, most_visits, seed):
    """Return a list of many (supply, loads) that are overfull in some windows about as often as not."""
    chance = random.Random(seed)
    return [(drawn_supply(chance), drawn_loads(chance, most_visits, chance.randint(0, 3))) for _ in range(many)]


class TestDemandsAndPlaces(unittest.TestCase):
    def test_of_several_loads(self):
        for _, loads in cases(150, 3, 11):
            for start, end in [(0, 3), (2, 9), (5, 20)]:
                expected = [plain_loads.demand(load, start, end) for load in plain_of(loads)]
                self.assertEqual(demands(load_of(loads), start, end), expected)
            for tick in (0, 1, 3, 7, 15):
                expected = [plain_loads.places(load, tick) for load in plain_of(loads)]
                self.assertEqual(places(load_of(loads), tick), expected)

    def test_places_by_all_small_records(self):
        chance = random.Random(12)
        seen = 0
        for _ in range(300):
            (writing, visits), = drawn_loads(chance, 3, 1)
            numbers = row(writing, 20)
            found = plain_loads.placed_stretches(visits, 5)
            if numbers[1] <= 2 and found and max(behind for _, behind in found) <= 6:
                seen += len(found) > 1
                self.assertEqual(places([made(writing, visits)], 5), [plain_loads.most_counted(numbers, found, 6)])
        self.assertGreater(seen, 20)

    def test_without_loads(self):
        self.assertEqual([demands([], 0, 1), places([], 0)], [[], []])
        for window in [(1, 1), (0, True), (None, 1)]:
            with self.assertRaises(InvalidWindow) as caught:
                demands([], *window)
            self.assertEqual(repr(caught.exception.value), repr(window))

    def test_wrong_ticks(self):
        load = Load(Curve([1]), [Visit(1)])
        self.assertEqual(places([load], 1000), [1])
        self.assertEqual(full_tick(load, 1000), (1000, [1]))
        for value in NO_COUNTS + [1001]:
            for function, argument in [(places, []), (places, [load]), (full_tick, load)]:
                with self.subTest(value), self.assertRaises(InvalidTick) as caught:
                    function(argument, value)
                self.assertEqual(repr(caught.exception.value), repr(value))

    def test_what_is_passed_and_returned(self):
        loads = [Load(Curve([2], gain=1), [Visit(2)]), Load(Curve([1]), [Visit(1)])]
        before = list(loads)
        told = demands(loads=loads, start=0, end=2)
        standing = places(loads=loads, tick=3)
        self.assertEqual([told, standing, loads], [[2, 1], [3, 1], before])
        told.clear()
        standing.clear()
        self.assertEqual([demands(loads, 0, 2), places(loads, 3)], [[2, 1], [3, 1]])


class TestOverfull(unittest.TestCase):
    def check_windows(self, many, most_visits, seed, latest, longest):
        found = {True: 0, False: 0}
        for supply, loads in cases(many, most_visits, seed):
            expected = plain_loads.first_overfull(supply, plain_of(loads), latest, longest)
            told = overfull(Supply(*supply), load_of(loads))
            if told is None or told[1] - told[0] <= longest:
                self.assertEqual(told, expected, (supply, loads))
            else:
                self.assertIsNone(expected, (supply, loads))
                self.assertTrue(is_overfull(Supply(*supply), load_of(loads), told))
            found[told is None] += 1
        self.assertGreater(min(found.values()), many // 10)

    def test_by_all_windows(self):
        self.check_windows(many=120, most_visits=1, seed=13, latest=13, longest=20)

    def test_by_all_windows_with_several_visits(self):
        self.check_windows(many=60, most_visits=3, seed=14, latest=13, longest=16)

    def test_without_ends_and_changes(self):
        chance = random.Random(15)
        for _ in range(60):
            loads = [(chance.choice(GOOD), [(chance.randint(1, 5), chance.randint(0, 5), chance.randint(0, 5), None)])
                     for _ in range(chance.randint(1, 4))]
            supply = chance.randint(0, 6), []
            told = overfull(Supply(*supply), load_of(loads))
            longest = min(20, told[1] - told[0] if told else 20)
            expected = plain_loads.first_overfull(supply, plain_of(loads), 11, longest)
            self.assertEqual(told if told and told[1] - told[0] == longest else expected, expected)

    def test_none(self):
        self.assertIsNone(overfull(Supply(0), []))
        self.assertIsNone(overfull(Supply(0), [Load(Curve([0]), [Visit(1)])]))
        self.assertIsNone(overfull(Supply(1), [Load(Curve([1], gain=1), [Visit(1)])]))
        self.assertIsNone(overfull(Supply(0), [Load(Curve([3], gain=1), [Visit(1, begin=5, end=5)])]))

    def test_late_begins(self):
        load = Load(Curve([1]), [Visit(3, shift=1000, begin=1000)])
        self.assertEqual(overfull(Supply(0), [load]), (2000, 2003))
        self.assertEqual(overfull(Supply(1, [(1000, 0)]), [load]), (2000, 2003))
        self.assertIsNone(overfull(Supply(0, [(1000, 1)]), [load]))

    def test_named_windows(self):
        loads = [Load(Curve([2, 2], period=2, gain=1), [Visit(2)]), Load(Curve([2, 2], period=2, gain=1), [Visit(4)])]
        self.assertEqual(overfull(Supply(1), loads), (0, 4))
        self.assertIsNone(overfull(Supply(2), loads))
        self.assertEqual(overfull(Supply(1, [(5, 0), (6, 1)]), loads[:1]), (4, 6))

    def test_arguments(self):
        loads = [Load(Curve([2]), [Visit(1)])]
        self.assertEqual(overfull(supply=Supply(1), loads=loads), (0, 1))
        self.assertTrue(is_overfull(supply=Supply(1), loads=loads, value=(0, 1)))
        self.assertEqual(crowded(room=1, loads=loads), 0)
        self.assertEqual(len(loads), 1)


class TestLongWindows(unittest.TestCase):
    """Loads of one visit each, whose demands are values of their curves."""

    def first(self, supply, loads, latest):
        """Return the first overfull window of those that start at most so late."""
        capacities = [plain_loads.capacity(supply, tick) for tick in range(latest + 6001)]
        sums = [0]
        for units in capacities:
            sums.append(sums[-1] + units)
        rows = [(row(writing, latest + 6001), visits[0]) for writing, visits in loads]
        for length in range(1, 6001):
            for start in range(latest + 1):
                needed = 0
                for numbers, (time, shift, begin, end) in rows:
                    first = max(begin, start - shift)
                    behind = start + length - time - shift + 1
                    behind = behind if end is None else min(behind, end)
                    needed += numbers[max(0, behind - first)]
                if needed > sums[start + length] - sums[start]:
                    return start, start + length
        return None

    def check(self, supply, loads, latest, expected=True):
        found = self.first(supply, loads, latest)
        self.assertEqual(overfull(Supply(*supply), load_of(loads)), found)
        self.assertEqual(found is not None, expected)
        return found

    def test_rates_a_little_greater(self):
        ones = (list(range(1, 12)) + [12], 12, 12)
        more = ([1] * 12, 12, 1)
        start, end = self.check((4, []), [(ones, [(12, 0, 0, None)])] * 4 + [(more, [(12, 3, 2, None)])], 7)
        self.assertGreater(end - start, 500)
        twos = ([2], 1, 2)
        start, end = self.check((20, []), [(twos, [(12, 0, 0, None)])] * 10 + [(more, [(1, 0, 1, None)])], 3)
        self.assertGreater(end - start, 2000)

    def test_rates_that_are_some_units_greater(self):
        ones, more, twelve = ([1], 1, 1), ([5] * 12, 12, 5), ([1] * 12, 12, 1)
        start, end = self.check((6, []), [(ones, [(12, 2, 1, None)])] * 6 + [(more, [(12, 0, 4, None)])], 7)
        self.assertGreater(end - start, 100)
        start, end = self.check((6, [(5, 9), (8, 6)]), [(ones, [(12, 2, 1, None)])] * 6 + [(twelve, [(1, 0, 4, None)])]
                                + [(more, [(12, 0, 9, 60)])], 13)
        self.assertGreater(end - start, 100)

    def test_lives_that_end_late(self):
        ones, half = ([1], 1, 1), ([1, 1], 2, 1)
        long_ago = [(half, [(12, 0, 0, 300)]), (ones, [(12, 0, 0, None)])]
        found = self.check((1, []), long_ago, 301)
        self.assertLess(found[1] - found[0], 60)
        self.check((1, []), [(([1] * 12, 12, 1), [(12, 0, 0, 300)]), (ones, [(12, 0, 0, None)])], 301)
        self.check((1, []), [(([1] * 12, 12, 1), [(12, 0, 0, 100)]), (ones, [(12, 0, 0, None)])], 101, False)
        self.check((1, [(299, 20)]), [(([1] * 12, 12, 1), [(12, 0, 0, 300)]), (ones, [(12, 0, 0, 400)])], 401)

    def test_with_changes_and_ends(self):
        ones, more = ([1], 1, 1), ([1] * 12, 12, 1)
        loads = [(ones, [(9, 1, 0, None)])] * 3 + [(more, [(5, 0, 4, None)]), (([3], 1, 0), [(2, 2, 3, 9)])]
        found = self.check((5, [(4, 6), (9, 3)]), loads, 12)
        self.assertGreater(found[1] - found[0], 200)
        self.check((3, [(4, 2), (9, 3)]), loads, 12)
        # The last capacity is greater, but before it the capacity is not great enough for some hundred ticks.
        self.check((3, [(350, 20)]), [(ones, [(9, 1, 0, None)])] * 3 + [(more, [(5, 0, 4, None)])], 352)
        self.check((3, [(150, 20)]), [(ones, [(9, 1, 0, None)])] * 3 + [(more, [(5, 0, 4, None)])], 152, False)

    def test_rates_that_are_equal(self):
        ones = ([1], 1, 1)
        self.check((2, []), [(ones, [(1, 0, 0, None)]), (ones, [(3, 5, 7, None)])], 13, False)
        self.check((2, []), [(ones, [(1, 0, 0, None)]), (([2], 1, 1), [(1, 5, 7, None)])], 13)
        self.check((2, [(13, 1), (14, 2)]), [(ones, [(2, 0, 0, None)]), (ones, [(3, 5, 7, None)])], 15, False)
        self.check((2, [(13, 0), (14, 2)]), [(ones, [(2, 0, 0, None)]), (ones, [(3, 5, 7, None)])], 15, False)
        self.check((2, [(13, 0), (15, 2)]), [(ones, [(2, 0, 0, None)]), (ones, [(3, 5, 7, None)])], 16)
        self.check((2, [(13, 0), (14, 2)]), [(ones, [(1, 0, 0, None)]), (ones, [(3, 5, 7, None)])], 15)

    def test_the_whole_window_is_needed(self):
        for time, capacity in [(3, 1), (12, 2), (7, 5)]:
            loads = [(([1], 1, 1), [(time, 0, 0, None)])] * capacity + [(([1] * 12, 12, 1), [(1, 0, 0, None)])]
            start, end = self.check((capacity, []), loads, 1)
            bigger = load_of(loads)
            self.assertTrue(is_overfull(Supply(capacity), bigger, (start, end)))
            self.assertFalse(is_overfull(Supply(capacity), bigger, (start, end - 1)))
            self.assertFalse(is_overfull(Supply(capacity), bigger, (start + 1, end)))


class TestIsOverfull(unittest.TestCase):
    def test_by_demands(self):
        for supply, loads in cases(60, 2, 16):
            for start in range(6):
                for end in range(start + 1, 12):
                    needed = sum(plain_loads.demand(load, start, end) for load in plain_of(loads))
                    expected = needed > plain_loads.between(supply, start, end)
                    self.assertIs(is_overfull(Supply(*supply), load_of(loads), (start, end)), expected)

    def test_any_value(self):
        loads = [Load(Curve([2], gain=2), [Visit(1)])]
        self.assertIs(is_overfull(Supply(1), loads, (0, 1)), True)
        self.assertIs(is_overfull(Supply(1), loads, (10 ** 15, 10 ** 15 + 3)), True)
        for value in NO_INTEGERS + [0, [0, 1], (0, 1, 2), (0,), (False, 1), (0, True), (1, 1), (2, 1), (-1, 1),
                                    ("0", "1"), (None, 1), ([], {}), "01", {0: 1, 1: 2}, Stranger()]:
            with self.subTest(value):
                self.assertIs(is_overfull(Supply(1), loads, value), False)


class TestCrowded(unittest.TestCase):
    def test_by_all_ticks(self):
        found = {True: 0, False: 0}
        for room in (0, 1, 3, 6, 10):
            for _, loads in cases(80, 3, 17 + room):
                expected = plain_loads.first_crowded(room, plain_of(loads), 34)
                self.assertEqual(crowded(room, load_of(loads)), expected, (room, loads))
                found[expected is None] += 1
        self.assertGreater(min(found.values()), 40)

    def test_late_ticks(self):
        early = Load(Curve([3]), [Visit(1)])
        late = Load(Curve([2], gain=1), [Visit(12, shift=1000, begin=1000)])
        self.assertEqual(crowded(12, [late]), 2011)
        self.assertIsNone(crowded(13, [late]))
        self.assertEqual(crowded(15, [late, early]), 2011)
        self.assertIsNone(crowded(16, [late, early]))
        ended = Load(Curve([3]), [Visit(4, shift=7, begin=990, end=1000), Visit(4, shift=9, begin=990, end=1000)])
        self.assertEqual([crowded(2, [ended]), crowded(5, [ended]), crowded(6, [ended])], [997, 999, None])

    def test_room(self):
        loads = [Load(Curve([5]), [Visit(1)])]
        self.assertEqual([crowded(4, loads), crowded(5, loads), crowded(10 ** 18, loads)], [0, None, None])
        self.assertIsNone(crowded(0, []))
        for value in NO_COUNTS:
            with self.subTest(value), self.assertRaises(InvalidCount) as caught:
                crowded(value, loads)
            self.assertEqual(repr(caught.exception.value), repr(value))


class TestFullTicks(unittest.TestCase):
    def test_full_ticks(self):
        for _, loads in cases(200, 4, 23):
            for (numbers, visits), load in zip(plain_of(loads), load_of(loads)):
                for now in (0, 2, 5, 9, 14):
                    found = plain_loads.placed_stretches(visits, now)
                    needed = plain_loads.places((numbers, visits), now)
                    tick, record = full_tick(load, now)
                    if needed == 0:
                        self.assertEqual((tick, record), (0, []))
                        continue
                    self.assertTrue(plain_loads.keeps(record, numbers))
                    self.assertTrue(all(units >= 0 for units in record))
                    self.assertEqual(plain_loads.counted(record, found, tick), needed)
                    for position, units in enumerate(record):
                        inside = any(first <= tick + position < behind for first, behind in found)
                        self.assertTrue(units == 0 or inside)

    def test_new_lists(self):
        load = Load(Curve([2], gain=1), [Visit(4)])
        told = full_tick(load=load, tick=6)
        told[1].clear()
        self.assertEqual(sum(full_tick(load, 6)[1]), 5)
        self.assertIsInstance(told, tuple)


if __name__ == "__main__":
    unittest.main()
