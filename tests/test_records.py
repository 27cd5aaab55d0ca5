"""Points 8 and 9: records."""

import unittest

import plain
from dueways.curves import Curve
from dueways.errors import InvalidCount, InvalidLength, InvalidRecord, NotGood
from dueways.records import breach, greedy, keeps, most_in, shaped, tightest

SOME = plain.writings()[::31]
SMALL = plain.records(4, 3)
NOT_GOOD = Curve([1, 3])
SHORT = plain.writings(3, 3, 2)


def made(writing):
    """Return the curve that is written so."""
    values, period, gain = writing
    return Curve(values, period=period, gain=gain)


GOOD = [writing for writing in SHORT if plain.first_break(plain.row(writing, 30)) is None]


class RecordTest(unittest.TestCase):
    def refuse_wrong_records(self, called):
        """Hold a function of a record against values that are no records."""
        for value in [(), (1, 2), None, True, 0, "", "12", b"12", {}, {1}, {1: 2}, plain.Stranger()]:
            self.refuse(called, value, 0)
        for units in plain.NO_COUNTS:
            self.refuse(called, [units], 0)
            self.refuse(called, [0, 2, units, 1], 2)
            self.refuse(called, [5, units, None, -1], 1)

    def refuse(self, called, value, position):
        with self.assertRaises(InvalidRecord, msg=value) as caught:
            called(value)
        self.assertEqual(caught.exception.position, position, value)


class TestMostIn(RecordTest):
    def test_all_windows(self):
        for record in SMALL:
            given = list(record)
            for length in range(8):
                self.assertEqual(most_in(record, length), max([0] + plain.windows(record, length)), (record, length))
            self.assertEqual(record, given)

    def test_by_hand(self):
        record = [1, 0, 5, 2, 0, 0, 4, 4]
        self.assertEqual([most_in(record, length) for length in range(10)], [0, 5, 8, 8, 8, 11, 15, 15, 16, 16])
        self.assertEqual(most_in(record=[2, 3], length=10 ** 18), 5)
        self.assertEqual(most_in([10 ** 18, 10 ** 18], 2), 2 * 10 ** 18)

    def test_no_ticks(self):
        self.assertEqual([most_in([], length) for length in (0, 1, 5)], [0, 0, 0])

    def test_wrong_records(self):
        self.refuse_wrong_records(lambda value: most_in(value, 1))

    def test_wrong_lengths(self):
        for value in plain.NO_COUNTS:
            with self.assertRaises(InvalidLength, msg=value) as caught:
                most_in([1], value)
            self.assertIs(caught.exception.value, value)

    def test_the_record_is_checked_first(self):
        self.refuse(lambda value: most_in(value, True), (1,), 0)
        self.refuse(lambda value: most_in(value, -1), [1, True], 1)


class TestBreach(RecordTest):
    def test_all_windows(self):
        for writing in SOME:
            curve, numbers = made(writing), plain.row(writing, 8)
            for record in SMALL:
                expected = plain.first_breach(record, numbers)
                self.assertEqual(breach(record, curve), expected, (record, writing))
                self.assertIs(keeps(record, curve), expected is None, (record, writing))

    def test_the_shortest_then_the_earliest(self):
        curve = Curve([2, 3], period=1, gain=1)
        self.assertEqual(breach([2, 2, 0, 0, 3, 5], curve), (1, 4, 1))
        self.assertEqual(breach([0, 2, 2, 0, 2, 2, 2], curve), (2, 1, 1))
        self.assertEqual(breach([2, 1, 2, 0, 0, 2, 1, 2], curve), (3, 0, 1))
        self.assertIsNone(breach([2, 1, 1, 1, 0, 2], curve))

    def test_long_windows(self):
        curve = Curve([1, 1], period=2, gain=1)
        self.assertEqual(breach([1, 0] * 199 + [1, 1], curve), (2, 398, 1))
        curve = Curve([2, 2], period=2, gain=1)
        self.assertIsNone(breach([2, 0, 1] + [0, 1] * 198, curve))
        self.assertEqual(breach([2, 0] + [1, 0] * 198 + [2], curve), (399, 0, 1))
        self.assertEqual(breach([1] * 400, Curve([5], gain=0)), (6, 0, 1))

    def test_a_curve_that_is_not_good(self):
        self.assertTrue(keeps([0, 1, 0, 1], NOT_GOOD))
        self.assertEqual(breach(record=[2, 1], curve=NOT_GOOD), (1, 0, 1))
        self.assertFalse(keeps(record=[2, 1], curve=NOT_GOOD))

    def test_no_ticks(self):
        self.assertIsNone(breach([], Curve([0])))
        self.assertIsNone(breach([0, 0], Curve([0])))
        self.assertTrue(keeps([], Curve([0])))

    def test_great_counts(self):
        self.assertEqual(breach([10 ** 18], Curve([2000])), (1, 0, 10 ** 18 - 2000))

    def test_wrong_records(self):
        self.refuse_wrong_records(lambda value: breach(value, Curve([1])))
        self.refuse_wrong_records(lambda value: keeps(value, Curve([1])))

    def test_a_later_element_is_wrong_behind_a_breach(self):
        self.refuse(lambda value: keeps(value, Curve([1])), [9, 9, True], 2)


class TestTightest(RecordTest):
    def test_values(self):
        for record in SMALL:
            given = list(record)
            curve = tightest(record)
            self.assertEqual([curve.at(length) for length in range(9)],
                             [max([0] + plain.windows(record, length)) for length in range(9)], record)
            self.assertEqual(record, given)

    def test_the_record_keeps_it_and_it_is_good(self):
        for record in SMALL:
            self.assertTrue(keeps(record, tightest(record)), record)
            self.assertTrue(tightest(record).is_good(), record)

    def test_it_is_at_most_each_curve_that_the_record_keeps(self):
        for writing in SOME:
            for record in SMALL[::3]:
                if plain.first_breach(record, plain.row(writing, 8)) is None:
                    self.assertTrue(tightest(record).at_most(made(writing)), (record, writing))

    def test_form(self):
        self.assertEqual(repr(tightest([])), "Curve([0], period=1, gain=0)")
        self.assertEqual(repr(tightest([0, 0])), "Curve([0], period=1, gain=0)")
        self.assertEqual(repr(tightest(record=[0, 1, 3, 0, 1, 0])), "Curve([3, 4, 4, 5], period=1, gain=0)")

    def test_more_and_greater_values_than_can_be_written(self):
        self.assertEqual(tightest([1] * 400).first_values(), list(range(1, 401)))
        self.assertEqual(tightest([5000, 10 ** 18]).first_values(), [10 ** 18, 10 ** 18 + 5000])

    def test_a_later_change_of_the_record_has_no_effect(self):
        record = [1, 2]
        curve = tightest(record)
        record[0] = 9
        self.assertEqual(curve, Curve([2, 3]))

    def test_wrong_records(self):
        self.refuse_wrong_records(tightest)


class TestGreedy(unittest.TestCase):
    def test_differences(self):
        for writing in GOOD:
            numbers = plain.row(writing, 12)
            for ticks in range(13):
                expected = [numbers[tick + 1] - numbers[tick] for tick in range(ticks)]
                self.assertEqual(greedy(made(writing), ticks), expected, writing)

    def test_held_against_all_records_that_keep_the_curve(self):
        for writing in GOOD:
            numbers = plain.row(writing, 8)
            most = greedy(made(writing), 4)
            self.assertIsNone(plain.first_breach(most, numbers), writing)
            for record in SMALL:
                if plain.first_breach(record, numbers) is None:
                    self.assertTrue(plain.never_more(record, most), (writing, record))

    def test_by_names_and_limits(self):
        curve = Curve([2, 2], period=2, gain=1)
        self.assertEqual(greedy(curve, 0), [])
        self.assertEqual(greedy(curve=curve, ticks=400), [2, 0] + [1, 0] * 199)

    def test_each_record_is_new(self):
        curve = Curve([2])
        greedy(curve, 3).append(7)
        self.assertEqual(greedy(curve, 3), [2, 0, 0])

    def test_wrong_ticks(self):
        for value in plain.NO_COUNTS + [401]:
            with self.assertRaises(InvalidCount, msg=value) as caught:
                greedy(Curve([1]), value)
            self.assertIs(caught.exception.value, value)

    def test_the_curve_is_checked_first(self):
        for ticks in (3, -1, True, 401):
            with self.assertRaises(NotGood) as caught:
                greedy(NOT_GOOD, ticks)
            self.assertEqual((caught.exception.first, caught.exception.second), (1, 1))


class TestShaped(RecordTest):
    def test_held_against_all_records_that_keep_the_curve(self):
        small = [record for record in SMALL if len(record) == 4]
        for writing in GOOD[::5]:
            numbers, curve = plain.row(writing, 8), made(writing)
            kept = [record for record in small if plain.first_breach(record, numbers) is None]
            for record in small[::3]:
                found = shaped(record, curve)
                self.assertEqual(len(found), len(record))
                self.assertIsNone(plain.first_breach(found, numbers), (record, writing))
                self.assertTrue(plain.never_more(found, record), (record, writing))
                for other in kept:
                    if plain.never_more(other, record):
                        self.assertTrue(plain.never_more(other, found), (record, writing, other))

    def test_a_record_that_keeps_the_curve_stays(self):
        for writing in GOOD:
            numbers, curve = plain.row(writing, 8), made(writing)
            for record in SMALL:
                if plain.first_breach(record, numbers) is None:
                    self.assertEqual(shaped(record, curve), record, writing)

    def test_by_hand(self):
        curve = Curve([2, 2], period=2, gain=1)
        self.assertEqual(shaped([4, 0, 0, 0, 0, 0], curve), [2, 0, 1, 0, 1, 0])
        self.assertEqual(shaped([0, 0, 9, 0, 0], curve), [0, 0, 2, 0, 1])
        self.assertEqual(shaped([1, 1, 1, 1, 1], curve), [1, 1, 1, 0, 1])
        self.assertEqual(shaped(record=[3, 0, 0], curve=Curve([1], gain=1)), [1, 1, 1])
        self.assertEqual(shaped([], curve), [])
        self.assertEqual(shaped([5], Curve([0])), [0])

    def test_a_heap_is_shaped_into_the_greedy_record(self):
        for writing in GOOD:
            self.assertEqual(shaped([10 ** 18] + [0] * 9, made(writing)), greedy(made(writing), 10))

    def test_the_argument_stays(self):
        record = [4, 0, 3]
        found = shaped(record, Curve([1], gain=1))
        self.assertEqual(record, [4, 0, 3])
        found.append(1)
        self.assertEqual(shaped(record, Curve([1], gain=1)), [1, 1, 1])

    def test_wrong_records(self):
        self.refuse_wrong_records(lambda value: shaped(value, Curve([1])))

    def test_a_curve_that_is_not_good(self):
        with self.assertRaises(NotGood) as caught:
            shaped([1], Curve([0, 0], gain=1))
        self.assertEqual((caught.exception.first, caught.exception.second), (1, 2))

    def test_the_record_is_checked_first(self):
        self.refuse(lambda value: shaped(value, NOT_GOOD), [1, True], 1)


if __name__ == "__main__":
    unittest.main()
