"""Points 2, 5 and 33: how curves are written, their values, their form, repr, text and equality."""

import unittest

import plain
from dueways.curves import MAX_VALUES, PERIODS, Curve
from dueways.errors import InvalidCurve, InvalidLength
from dueways.records import tightest


def problem(*args, **more):
    """Return the problem and position with which a curve is refused, or None."""
    try:
        Curve(*args, **more)
    except InvalidCurve as error:
        return error.problem, error.position
    return None


def least_writing(numbers):
    """Return the first of all writings, by period and number of values, that gives these values from 0 on."""
    for period in PERIODS:
        for many in range(period, 31):
            gain = numbers[many + 1] - numbers[many + 1 - period]
            if plain.row((numbers[1:many + 1], period, gain), len(numbers) - 1) == numbers:
                return numbers[1:many + 1], period, gain
    return None


class TestConstants(unittest.TestCase):
    def test_constants(self):
        self.assertEqual(MAX_VALUES, 24)
        self.assertEqual(PERIODS, (1, 2, 3, 4, 6, 12))
        self.assertIsInstance(PERIODS, tuple)


class TestValues(unittest.TestCase):
    def test_small_curves_at_short_lengths(self):
        for values, period, gain in plain.writings():
            curve = Curve(values, period=period, gain=gain)
            for length in range(31):
                self.assertEqual(curve.at(length), plain.value(values, period, gain, length),
                                 (values, period, gain, length))

    def test_each_period(self):
        for period in PERIODS:
            for many in (period, period + 1, 23, 24):
                values = [position * position // 9 for position in range(many)]
                curve = Curve(values, period=period, gain=60)
                self.assertEqual([curve.at(length) for length in range(101)],
                                 plain.row((values, period, 60), 100))

    def test_great_lengths(self):
        curve = Curve([2, 2], period=2, gain=1)
        self.assertEqual(curve.at(10 ** 18), 5 * 10 ** 17 + 1)
        self.assertEqual(curve.at(10 ** 18 + 1), 5 * 10 ** 17 + 2)
        self.assertEqual(curve.at(9999999999999999999), 5 * 10 ** 18 + 1)
        self.assertEqual(Curve([0, 5, 5, 7], period=3, gain=4).at(3 * 10 ** 17 + 1), 7 + 4 * (10 ** 17 - 1))
        self.assertEqual(Curve([7]).at(10 ** 18), 7)

    def test_period_and_gain_left_out(self):
        self.assertEqual([Curve([1, 4]).at(length) for length in range(6)], [0, 1, 4, 4, 4, 4])
        self.assertEqual(Curve([1, 4]), Curve([1, 4], period=1, gain=0))
        self.assertEqual(Curve([1, 4], gain=2), Curve([1, 4], period=1, gain=2))
        self.assertEqual(Curve([1, 1], period=2), Curve([1, 1], period=2, gain=0))

    def test_by_names(self):
        curve = Curve(values=[1, 2], period=2, gain=1)
        self.assertEqual([curve.at(length=length) for length in range(6)], [0, 1, 2, 2, 3, 3])

    def test_period_and_gain_are_passed_by_name(self):
        with self.assertRaises(TypeError):
            Curve([1, 2], 2, 1)

    def test_wrong_lengths(self):
        curve = Curve([1])
        for value in plain.NO_COUNTS:
            with self.subTest(value=value), self.assertRaises(InvalidLength) as caught:
                curve.at(value)
            self.assertIs(caught.exception.value, value)


class TestProblems(unittest.TestCase):
    def test_no_list(self):
        for values in [(1, 2), (), None, 3, True, "12", {1: 2}, {1}, b"12", range(3)]:
            self.assertEqual(problem(values), ("list", 0), values)

    def test_number_of_values(self):
        self.assertEqual(problem([]), ("count", 0))
        self.assertIsNone(problem([1]))
        self.assertIsNone(problem([1] * 24))
        self.assertEqual(problem([1] * 25), ("count", 0))
        self.assertEqual(problem(["x"] * 25), ("count", 0))

    def test_wrong_values(self):
        for value in plain.NO_COUNTS + [2001]:
            self.assertEqual(problem([value]), ("value", 0), value)
            self.assertEqual(problem([0, 0, value, 3]), ("value", 2), value)
        self.assertIsNone(problem([0]))
        self.assertIsNone(problem([2000]))

    def test_falling_values(self):
        self.assertEqual(problem([2, 1]), ("value", 1))
        self.assertEqual(problem([1, 1, 2, 1]), ("value", 3))
        self.assertIsNone(problem([1, 1, 2, 2]))

    def test_the_first_wrong_value_decides(self):
        self.assertEqual(problem([3, "x", 1]), ("value", 1))
        self.assertEqual(problem([3, 1, "x"]), ("value", 1))
        self.assertEqual(problem([1, True]), ("value", 1))
        self.assertEqual(problem([0, False]), ("value", 1))

    def test_wrong_periods(self):
        for period in plain.NO_COUNTS + [0, 5, 7, 8, 9, 10, 11, 13, 24]:
            self.assertEqual(problem([1] * 24, period=period), ("period", 0), period)
        for period in PERIODS:
            self.assertIsNone(problem([1] * period, period=period))
            self.assertEqual(problem([1] * (period - 1), period=period),
                             ("period", 0) if period > 1 else ("count", 0))

    def test_wrong_gains(self):
        for gain in plain.NO_COUNTS + [2001]:
            self.assertEqual(problem([0], gain=gain), ("gain", 0), gain)
        self.assertIsNone(problem([0], gain=2000))

    def test_a_gain_with_which_the_curve_would_fall(self):
        self.assertEqual(problem([1, 5, 6], period=3, gain=4), ("gain", 0))
        self.assertIsNone(problem([1, 5, 6], period=3, gain=5))
        self.assertEqual(problem([1, 5, 6], period=2, gain=0), ("gain", 0))
        self.assertIsNone(problem([1, 5, 6], period=2, gain=1))
        self.assertIsNone(problem([1, 5, 6], period=1, gain=0))

    def test_two_problems_at_once(self):
        self.assertEqual(problem((2, 1), period=5, gain=-1), ("list", 0))
        self.assertEqual(problem([], period=5, gain=-1), ("count", 0))
        self.assertEqual(problem([2, 1], period=5, gain=-1), ("value", 1))
        self.assertEqual(problem([1, 2], period=5, gain=-1), ("period", 0))
        self.assertEqual(problem([1, 2], period=2, gain=-1), ("gain", 0))


class TestForm(unittest.TestCase):
    def test_small_curves(self):
        for writing in plain.writings():
            values, period, gain = writing
            curve = Curve(values, period=period, gain=gain)
            self.assertEqual((curve.first_values(), curve.period, curve.gain),
                             least_writing(plain.row(writing, 60)), writing)

    def test_long_writings(self):
        for period, gain in [(1, 2), (2, 1), (2, 4), (3, 1), (4, 3), (6, 5), (12, 7), (12, 24)]:
            for ahead in ([], [0], [0, 3], [9] * 11):
                base = (max(ahead) if ahead else 0) + gain
                values = ahead + [base + position * gain // period for position in range(24 - len(ahead))]
                curve = Curve(values, period=12, gain=12 * gain // period)
                self.assertEqual((curve.first_values(), curve.period, curve.gain),
                                 least_writing(plain.row((values, 12, 12 * gain // period), 100)))

    def test_written_by_hand(self):
        curve = Curve([2, 2, 3, 3, 4, 4], period=6, gain=3)
        self.assertEqual((curve.first_values(), curve.period, curve.gain), ([2, 2], 2, 1))
        curve = Curve([4, 5, 6, 7], period=4, gain=4)
        self.assertEqual((curve.first_values(), curve.period, curve.gain), ([4], 1, 1))
        curve = Curve([3] * 24, period=12)
        self.assertEqual((curve.first_values(), curve.period, curve.gain), ([3], 1, 0))

    def test_fewest_values_are_at_least_the_period(self):
        curve = Curve([0, 1], period=2, gain=2)
        self.assertEqual((curve.first_values(), curve.period, curve.gain), ([0], 1, 1))
        curve = Curve([0, 0, 1], period=3, gain=1)
        self.assertEqual((curve.first_values(), curve.period, curve.gain), ([0, 0, 1], 3, 1))

    def test_repr(self):
        self.assertEqual(repr(Curve([2, 2], period=2, gain=1)), "Curve([2, 2], period=2, gain=1)")
        self.assertEqual(repr(Curve([2, 2, 3, 3], period=4, gain=2)), "Curve([2, 2], period=2, gain=1)")
        self.assertEqual(repr(Curve([5, 5])), "Curve([5], period=1, gain=0)")

    def test_text(self):
        self.assertEqual(str(Curve([2, 2], period=2, gain=1)), "2,2/2/1")
        self.assertEqual(str(Curve([0, 10, 2000, 2000], gain=0)), "0,10,2000/1/0")
        self.assertEqual(str(Curve([1], gain=2000)), "1/1/2000")

    def test_repr_gives_the_curve(self):
        for values, period, gain in plain.writings()[::5]:
            curve = Curve(values, period=period, gain=gain)
            self.assertEqual(eval(repr(curve)), curve)


class TestEquality(unittest.TestCase):
    def test_curves_are_equal_by_their_values(self):
        writings = plain.writings(3, 2, 2)
        curves = [Curve(values, period=period, gain=gain) for values, period, gain in writings]
        rows = [plain.row(writing, 30) for writing in writings]
        for one, one_row in zip(curves, rows):
            for two, two_row in zip(curves, rows):
                self.assertEqual(one == two, one_row == two_row)
                self.assertEqual(one != two, one_row != two_row)

    def test_equal_only_to_curves(self):
        for other in [None, 0, "1/1/0", [1], ([1], 1, 0), plain.Stranger(), Curve]:
            self.assertFalse(Curve([1]) == other)
            self.assertTrue(Curve([1]) != other)

    def test_curves_of_the_package_are_equal_to_written_ones(self):
        self.assertEqual(tightest([1, 0, 1]), Curve([1, 1, 2]))
        self.assertEqual(Curve([1], gain=1) + Curve([1, 1], period=2, gain=1), Curve([2, 3], period=2, gain=3))


class TestCopies(unittest.TestCase):
    def test_the_argument_is_copied_and_not_changed(self):
        values = [1, 2, 3, 4, 4, 4]
        curve = Curve(values)
        self.assertEqual(values, [1, 2, 3, 4, 4, 4])
        values[0] = 0
        values.append(9)
        self.assertEqual(repr(curve), "Curve([1, 2, 3, 4], period=1, gain=0)")

    def test_each_returned_list_is_new(self):
        curve = Curve([1, 2])
        curve.first_values().append(3)
        curve.first_values()[0] = 0
        self.assertEqual(curve.first_values(), [1, 2])
        self.assertEqual(curve.at(1), 1)

    def test_the_properties_cannot_be_set(self):
        for name in ("period", "gain", "rate"):
            with self.assertRaises(AttributeError):
                setattr(Curve([1]), name, 1)


if __name__ == "__main__":
    unittest.main()
