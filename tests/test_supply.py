"""Supplies: capacities and their changes."""

import random
import unittest

import plain_loads
from dueways.errors import InvalidCount, InvalidSupply, InvalidTick, InvalidWindow
from dueways.supply import Supply
from plain import NO_COUNTS, NO_INTEGERS, Stranger


def drawn(many, seed=5):
    """Return a list of many (capacity, changes)."""
    chance = random.Random(seed)
    found = []
    for _ in range(many):
        ticks = sorted(chance.sample(range(1, 12), chance.randint(0, 4)))
        found.append((chance.randint(0, 2), [(tick, chance.randint(0, 2)) for tick in ticks]))
    return found


class TestSupplies(unittest.TestCase):
    def position(self, changes):
        with self.assertRaises(InvalidSupply) as caught:
            Supply(1, changes)
        return caught.exception.position

    def test_tick_by_tick_and_summed(self):
        for capacity, changes in drawn(100):
            supply = Supply(capacity, changes)
            for tick in range(16):
                self.assertEqual(supply.at(tick), plain_loads.capacity((capacity, changes), tick))
                for end in range(tick + 1, 16):
                    self.assertEqual(supply.between(tick, end), plain_loads.between((capacity, changes), tick, end))

    def test_changes(self):
        for capacity, changes in drawn(200, seed=6):
            kept = [(tick, after) for tick, after in changes
                    if plain_loads.capacity((capacity, changes), tick - 1) != after]
            self.assertEqual(Supply(capacity, changes).changes(), kept)
        self.assertEqual(Supply(1, [(3, 1), (5, 2), (6, 2), (7, 1)]).changes(), [(5, 2), (7, 1)])
        self.assertEqual(Supply(1).changes(), [])

    def test_great_windows(self):
        supply = Supply(20, ((1, 0), (1000, 3)))
        self.assertEqual(supply.between(0, 10 ** 15), 20 + 3 * (10 ** 15 - 1000))
        self.assertEqual(supply.between(10 ** 15, 10 ** 15 + 7), 21)
        self.assertEqual([supply.at(tick) for tick in (0, 1, 999, 1000)], [20, 0, 0, 3])

    def test_equality(self):
        supplies = [(Supply(capacity, changes), [plain_loads.capacity((capacity, changes), tick) for tick in range(16)])
                    for capacity, changes in drawn(60, seed=7)]
        for one, row in supplies:
            for two, other in supplies:
                self.assertEqual(one == two, row == other)
                self.assertEqual(one != two, row != other)
        self.assertTrue(Supply(2, [(4, 2), (5, 1)]) == Supply(2, ((5, 1), (9, 1))))
        self.assertFalse(Supply(2, [(1000, 1)]) == Supply(2))
        for other in NO_INTEGERS + [2, (2, []), Stranger()]:
            self.assertFalse(Supply(2) == other)
            self.assertTrue(Supply(2) != other)

    def test_capacity(self):
        self.assertEqual([Supply(0).at(0), Supply(20).at(1000)], [0, 20])
        for value in NO_COUNTS + [21]:
            for changes in [(), None]:
                with self.subTest(value), self.assertRaises(InvalidCount) as caught:
                    Supply(value, changes)
                self.assertEqual(repr(caught.exception.value), repr(value))

    def test_limits_of_changes(self):
        self.assertEqual(Supply(1, [(1, 0), (1000, 20)]).changes(), [(1, 0), (1000, 20)])
        self.assertEqual([self.position([(0, 2)]), self.position([(1, 2), (1001, 3)])], [0, 1])
        self.assertEqual([self.position([(1, 21)]), self.position([(1, 2), (2, 0), (2, 1)])], [0, 2])
        self.assertEqual(self.position(((3, 2), (4, 0), (3, 1), None)), 2)

    def test_wrong_changes(self):
        for value in NO_COUNTS + [5]:
            with self.subTest(value):
                if not (isinstance(value, (list, tuple)) and len(value) == 0):
                    self.assertEqual(self.position(value), 0)
                self.assertEqual(self.position([(1, 2), value]), 1)
                self.assertEqual(self.position([(value, 2)] if value != 5 else [(1, 2, 3)]), 0)
                self.assertEqual(self.position([(1, value)] if value != 5 else [[1, 2]]), 0)

    def test_wrong_ticks_and_windows(self):
        supply = Supply(1, [(2, 2)])
        for value in NO_COUNTS + [1001]:
            with self.subTest(value), self.assertRaises(InvalidTick) as caught:
                supply.at(value)
            self.assertEqual(repr(caught.exception.value), repr(value))
        for window in [(1, 1), (2, 1), (-1, 2), (True, 2), (0, True), (None, None), ([], 1)]:
            with self.subTest(window), self.assertRaises(InvalidWindow) as caught:
                supply.between(*window)
            self.assertEqual(repr(caught.exception.value), repr(window))

    def test_copies(self):
        changes = [(2, 3)]
        supply = Supply(capacity=1, changes=changes)
        changes.append((4, 5))
        supply.changes().clear()
        self.assertEqual(supply.changes(), [(2, 3)])
        self.assertEqual(changes, [(2, 3), (4, 5)])
        self.assertEqual([supply.at(tick=5), supply.between(start=1, end=3)], [3, 4])


if __name__ == "__main__":
    unittest.main()
