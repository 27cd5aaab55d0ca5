"""Visits, and the stretches of a visit in a window."""

import unittest
from itertools import product

import plain_loads
from dueways.errors import InvalidVisit, InvalidWindow
from dueways.loads import MAX_TIME, Visit, stretch
from plain import NO_COUNTS, NO_INTEGERS, Stranger


class TestVisits(unittest.TestCase):
    def problem(self, *values, **named):
        with self.assertRaises(InvalidVisit) as caught:
            Visit(*values, **named)
        return caught.exception.problem

    def test_values(self):
        self.assertEqual(MAX_TIME, 12)
        visit = Visit(3, shift=4, begin=5, end=6)
        self.assertEqual((visit.time, visit.shift, visit.begin, visit.end), (3, 4, 5, 6))
        visit = Visit(2)
        self.assertEqual((visit.time, visit.shift, visit.begin, visit.end), (2, 0, 0, None))
        visit = Visit(time=1, begin=7, end=7)
        self.assertEqual((visit.time, visit.shift, visit.begin, visit.end), (1, 0, 7, 7))

    def test_only_time_by_position(self):
        with self.assertRaises(TypeError):
            Visit(1, 2)

    def test_limits(self):
        visit = Visit(12, shift=1000, begin=1000, end=1000)
        self.assertEqual((visit.time, visit.shift, visit.begin, visit.end), (12, 1000, 1000, 1000))
        self.assertEqual(Visit(1, end=0).end, 0)
        self.assertEqual([self.problem(0), self.problem(13)], ["time", "time"])
        self.assertEqual([self.problem(1, shift=1001), self.problem(1, begin=1001)], ["shift", "begin"])
        self.assertEqual([self.problem(1, end=1001), self.problem(1, begin=5, end=4)], ["end", "end"])

    def test_each_problem_for_any_value(self):
        for value in NO_COUNTS:
            with self.subTest(value):
                self.assertEqual(self.problem(value), "time")
                self.assertEqual(self.problem(1, shift=value), "shift")
                self.assertEqual(self.problem(1, begin=value), "begin")
                if value is not None:
                    self.assertEqual(self.problem(1, end=value), "end")

    def test_the_first_problem_is_raised(self):
        self.assertEqual(self.problem(0, shift=-1, begin=-1, end=-1), "time")
        self.assertEqual(self.problem(1, shift=-1, begin=-1, end=-1), "shift")
        self.assertEqual(self.problem(1, shift=0, begin=-1, end=-1), "begin")
        self.assertEqual(self.problem(1, begin=True, end=0), "begin")

    def test_equality(self):
        visit = Visit(2, shift=1, begin=3, end=9)
        self.assertTrue(visit == Visit(2, end=9, begin=3, shift=1))
        self.assertFalse(visit != Visit(2, end=9, begin=3, shift=1))
        others = [Visit(3, shift=1, begin=3, end=9), Visit(2, shift=0, begin=3, end=9),
                  Visit(2, shift=1, begin=2, end=9), Visit(2, shift=1, begin=3), Visit(2, shift=1, begin=3, end=8)]
        for other in others + NO_INTEGERS + [(2, 1, 3, 9), 2, "Visit(2, shift=1, begin=3, end=9)"]:
            with self.subTest(other):
                self.assertFalse(visit == other)
                self.assertTrue(visit != other)
        self.assertFalse(Visit(1) == Stranger())

    def test_repr(self):
        self.assertEqual(repr(Visit(2, shift=1)), "Visit(2, shift=1, begin=0, end=None)")
        self.assertEqual(repr(Visit(12, begin=3, end=40)), "Visit(12, shift=0, begin=3, end=40)")


class TestStretches(unittest.TestCase):
    def test_by_each_entry_tick(self):
        ends = [None, 0, 1, 2, 3, 5, 8]
        for time, shift, begin, end in product([1, 2, 4, 12], [0, 1, 5], [0, 1, 3], ends):
            if end is not None and end < begin:
                continue
            visit = Visit(time, shift=shift, begin=begin, end=end)
            for start in range(12):
                for behind in range(start + 1, 26):
                    plain = plain_loads.stretch((time, shift, begin, end), start, behind)
                    self.assertEqual(stretch(visit, start, behind), plain, (visit, start, behind))

    def test_named_windows(self):
        visit = Visit(2, shift=3, begin=4, end=8)
        self.assertIsNone(stretch(visit, 0, 8))
        self.assertEqual(stretch(visit, 0, 9), (4, 5))
        self.assertEqual(stretch(visit, 8, 12), (5, 8))
        self.assertEqual(stretch(visit, 0, 10 ** 18), (4, 8))
        self.assertIsNone(stretch(visit, 11, 10 ** 18))
        self.assertEqual(stretch(visit, 10, 12), (7, 8))
        self.assertIsNone(stretch(visit, 10, 11))
        self.assertIsNone(stretch(Visit(1, begin=4, end=4), 0, 100))
        self.assertEqual(stretch(visit=Visit(1), start=0, end=1), (0, 1))
        self.assertEqual(stretch(Visit(1), 10 ** 18, 10 ** 18 + 5), (10 ** 18, 10 ** 18 + 5))

    def test_wrong_windows(self):
        for start, end in [(0, 0), (1, 1), (2, 1), (-1, 1), (0, -1), (10 ** 18, 1)]:
            with self.assertRaises(InvalidWindow) as caught:
                stretch(Visit(1), start, end)
            self.assertEqual(caught.exception.value, (start, end))
        for value in NO_COUNTS:
            for window in [(value, 5), (0, value)]:
                with self.subTest(window), self.assertRaises(InvalidWindow) as caught:
                    stretch(Visit(1), *window)
                self.assertEqual(repr(caught.exception.value), repr(window))

    def test_the_visit_stays_as_it_was(self):
        visit = Visit(2, shift=1, begin=2, end=9)
        told = [stretch(visit, 0, 20), stretch(visit, 0, 20)]
        self.assertEqual(told, [(2, 9), (2, 9)])
        self.assertEqual(visit, Visit(2, shift=1, begin=2, end=9))


if __name__ == "__main__":
    unittest.main()
