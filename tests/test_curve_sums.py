"""Point 7, and first_above and shortest_for: curves together, and what is worked out of one."""

import unittest
from math import gcd

import plain
from dueways.curves import PERIODS, Curve
from dueways.errors import InvalidCount

FAR = 400


def made(writing):
    """Return the curve that is written so."""
    values, period, gain = writing
    return Curve(values, period=period, gain=gain)


SOME = plain.writings()[::23] + [([5, 5, 5, 6, 6, 9], 6, 4), ([1] * 12, 12, 1), ([0, 4, 4, 4], 4, 5)]


class TestSum(unittest.TestCase):
    def test_values(self):
        for one in SOME:
            for two in SOME:
                total = made(one) + made(two)
                expected = [a + b for a, b in zip(plain.row(one, 60), plain.row(two, 60))]
                self.assertEqual([total.at(length) for length in range(61)], expected, (one, two))

    def test_all_periods(self):
        for one in PERIODS:
            for two in PERIODS:
                first = (list(range(one)), one, one)
                second = ([0] * (24 - two) + [2] * two, two, 5)
                total = made(first) + made(second)
                expected = [a + b for a, b in zip(plain.row(first, 120), plain.row(second, 120))]
                self.assertEqual([total.at(length) for length in range(121)], expected)

    def test_form(self):
        self.assertEqual(repr(Curve([1, 1], period=2, gain=1) + Curve([0, 1], period=2, gain=1)),
                         "Curve([1], period=1, gain=1)")
        self.assertEqual(repr(Curve([1, 1], period=2, gain=1) + Curve([1, 1, 1], period=3, gain=1)),
                         "Curve([2, 2, 3, 4, 5, 5], period=6, gain=5)")

    def test_more_and_greater_values_than_can_be_written(self):
        great = Curve([2000], gain=2000) + Curve([2000], gain=2000)
        self.assertEqual(repr(great), "Curve([4000], period=1, gain=4000)")
        ahead = Curve(list(range(24)), period=12, gain=12) + Curve(list(range(2, 26)), period=1, gain=7)
        self.assertEqual(ahead.at(200), 199 + plain.value(list(range(2, 26)), 1, 7, 200))
        longer = Curve([0] * 23 + [5]) + Curve([1] * 12, period=12, gain=3)
        self.assertGreater(len(longer.first_values()), 24)

    def test_many_terms(self):
        total = Curve([0])
        for _ in range(30):
            total = total + Curve([1, 1, 1], period=3, gain=1)
        self.assertEqual(total, Curve([30, 30, 30], period=3, gain=30))

    def test_the_terms_stay(self):
        one, two = Curve([1], gain=1), Curve([2])
        self.assertEqual(one + two, two + one)
        self.assertEqual([repr(one), repr(two)], ["Curve([1], period=1, gain=1)", "Curve([2], period=1, gain=0)"])


class TestLater(unittest.TestCase):
    def test_values(self):
        for writing in SOME:
            for ticks in (0, 1, 2, 7, 100):
                late = made(writing).later(ticks)
                expected = [0] * ticks + plain.row(writing, 60)
                self.assertEqual([late.at(length) for length in range(ticks + 61)], expected, (writing, ticks))

    def test_form(self):
        self.assertEqual(repr(Curve([2, 2], period=2, gain=1).later(3)), "Curve([0, 0, 0, 2, 2], period=2, gain=1)")
        self.assertEqual(repr(Curve([0, 2], gain=1).later(ticks=1)), "Curve([0, 0, 2], period=1, gain=1)")
        self.assertEqual(Curve([0, 0]).later(50), Curve([0]))
        self.assertEqual(Curve([1]).later(0), Curve([1]))

    def test_later_again(self):
        self.assertEqual(Curve([1], gain=2).later(100).later(100).at(203), 5)

    def test_wrong_ticks(self):
        curve = Curve([1])
        for value in plain.NO_COUNTS + [101]:
            with self.assertRaises(InvalidCount, msg=value) as caught:
                curve.later(value)
            self.assertIs(caught.exception.value, value)


class TestAtMost(unittest.TestCase):
    def test_small_curves(self):
        for one in SOME:
            for two in SOME:
                expected = all(a <= b for a, b in zip(plain.row(one, FAR), plain.row(two, FAR)))
                self.assertIs(made(one).at_most(made(two)), expected, (one, two))

    def test_more_only_far_out(self):
        flat, rising = Curve([1000]), Curve([0], gain=1)
        self.assertFalse(rising.at_most(flat))
        self.assertFalse(flat.at_most(rising))
        self.assertFalse(Curve([0] * 12, period=12, gain=1).at_most(Curve([2000])))
        self.assertFalse(Curve([1] * 4, period=4, gain=2).at_most(Curve([2000] * 12, period=12, gain=5)))
        self.assertTrue(Curve([1] * 4, period=4, gain=2).at_most(Curve([2000] * 12, period=12, gain=6)))

    def test_more_at_one_length_only(self):
        one = Curve([0] * 23 + [1], period=1, gain=0)
        self.assertFalse(one.at_most(Curve([0])))
        self.assertFalse(one.at_most(Curve([0] * 12 + [0] * 12, period=12, gain=1)))
        self.assertTrue(one.at_most(other=Curve([0] * 12 + [1], period=1)))

    def test_different_periods(self):
        self.assertTrue(Curve([0, 1], period=2, gain=1).at_most(Curve([1, 1, 1], period=3, gain=2)))
        self.assertFalse(Curve([1, 1], period=2, gain=1).at_most(Curve([1, 1, 1], period=3, gain=1)))

    def test_itself(self):
        for writing in SOME:
            self.assertTrue(made(writing).at_most(made(writing)))


class TestRate(unittest.TestCase):
    def test_lowest_terms(self):
        for values, period, gain in plain.writings(4, 2, 8):
            rate = Curve(values, period=period, gain=gain).rate
            self.assertEqual(rate, (gain // gcd(gain, period), period // gcd(gain, period)))
            self.assertIsInstance(rate, tuple)

    def test_by_hand(self):
        self.assertEqual(Curve([1]).rate, (0, 1))
        self.assertEqual(Curve([1] * 12, period=12, gain=0).rate, (0, 1))
        self.assertEqual(Curve([0, 3, 3, 3], period=4, gain=6).rate, (3, 2))
        self.assertEqual(Curve([1] * 12, period=12, gain=8).rate, (2, 3))
        self.assertEqual(Curve([1], gain=2000).rate, (2000, 1))

    def test_of_a_sum(self):
        self.assertEqual((Curve([1, 1], period=2, gain=1) + Curve([1] * 6, period=6, gain=1)).rate, (2, 3))


class TestFirstAbove(unittest.TestCase):
    def test_small_curves(self):
        for writing in plain.writings():
            numbers = plain.row(writing, FAR)
            for capacity in range(5):
                above = [length for length in range(1, FAR + 1) if numbers[length] > capacity * length]
                self.assertEqual(made(writing).first_above(capacity), above[0] if above else None,
                                 (writing, capacity))

    def test_far_out(self):
        # In each period one unit more than can be served: it makes up for those by which there were fewer before.
        self.assertEqual(Curve([0] * 12, period=12, gain=25).first_above(2), 3 * 12 + 1)
        self.assertEqual(Curve([0] * 12, period=12, gain=25).later(100).first_above(2), 203 * 12 + 101)
        self.assertEqual(Curve([0] * 11 + [20], period=12, gain=25).later(100).first_above(2), 203 * 12 + 101)
        self.assertEqual(Curve([0] * 11 + [24], period=12, gain=25).later(100).first_above(2), 200 * 12 + 112 + 12)
        self.assertIsNone(Curve([0] * 12, period=12, gain=24).first_above(2))
        self.assertEqual(Curve([0] * 12, period=12, gain=13).later(100).first_above(1), 102 * 12 + 101)

    def test_by_hand(self):
        self.assertEqual(Curve([0]).first_above(0), None)
        self.assertEqual(Curve([0, 0, 1]).first_above(0), 3)
        self.assertIsNone(Curve([1, 2], period=1, gain=1).first_above(1))
        self.assertEqual(Curve([2]).first_above(capacity=1), 1)
        self.assertIsNone(Curve([2000], gain=2000).first_above(10 ** 18))

    def test_wrong_capacities(self):
        for value in plain.NO_COUNTS:
            with self.assertRaises(InvalidCount, msg=value) as caught:
                Curve([1]).first_above(value)
            self.assertIs(caught.exception.value, value)


class TestShortestFor(unittest.TestCase):
    def test_small_curves(self):
        for writing in plain.writings():
            numbers = plain.row(writing, FAR)
            for units in (0, 1, 2, 3, 4, 5, 11, 30):
                enough = [length for length in range(FAR + 1) if numbers[length] >= units]
                self.assertEqual(made(writing).shortest_for(units), enough[0] if enough else None,
                                 (writing, units))

    def test_far_out(self):
        curve = Curve([2, 2], period=2, gain=1)
        self.assertEqual(curve.shortest_for(10 ** 18), 2 * 10 ** 18 - 3)
        self.assertEqual(Curve([0, 1, 1, 4], period=4, gain=7).shortest_for(7 * 10 ** 17 + 1), 4 * 10 ** 17 + 2)

    def test_by_hand(self):
        self.assertEqual(Curve([0]).shortest_for(0), 0)
        self.assertIsNone(Curve([0]).shortest_for(1))
        self.assertIsNone(Curve([3, 5]).shortest_for(6))
        self.assertEqual(Curve([3, 5]).shortest_for(units=5), 2)

    def test_wrong_units(self):
        for value in plain.NO_COUNTS:
            with self.assertRaises(InvalidCount, msg=value) as caught:
                Curve([1]).shortest_for(value)
            self.assertIs(caught.exception.value, value)


if __name__ == "__main__":
    unittest.main()
