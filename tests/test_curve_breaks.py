"""Point 6: breaks, good curves and the curves of pieces."""

import unittest
from itertools import product

import plain
from dueways.curves import PERIODS, Curve
from dueways.errors import InvalidPiece, TooLong


def rounded_up(units, parts):
    """Return units / parts, rounded up."""
    return -(-units // parts)


def line(piece, length):
    """Return the line of a piece at a length, by point 6."""
    return piece[0] + rounded_up(piece[1] * length, piece[2])


class TestBreaks(unittest.TestCase):
    def test_small_curves(self):
        for writing in plain.writings():
            values, period, gain = writing
            curve = Curve(values, period=period, gain=gain)
            expected = plain.first_break(plain.row(writing, 40))
            self.assertEqual(curve.find_break(), expected, writing)
            self.assertIs(curve.is_good(), expected is None, writing)

    def test_by_hand(self):
        self.assertEqual(Curve([1, 3]).find_break(), (1, 1))
        self.assertEqual(Curve([1, 2, 3, 5]).find_break(), (1, 3))
        self.assertEqual(Curve([0, 1]).find_break(), (1, 1))
        self.assertEqual(Curve([0], gain=1).find_break(), (1, 1))
        self.assertIsNone(Curve([0]).find_break())
        self.assertIsNone(Curve([2, 2], period=2, gain=1).find_break())
        self.assertEqual(Curve([2, 2], period=2, gain=3).find_break(), (1, 2))

    def test_of_equal_sums_the_first(self):
        # 3 + 3 and 2 + 4 break too, but 1 + 5 is the first one with this sum.
        self.assertEqual(Curve([2, 3, 4, 4, 4, 8]).find_break(), (1, 5))
        # At 1 + 5 it does not break: 6 and 3 are enough for 9.
        self.assertEqual(Curve([6, 6, 6, 6, 6, 6, 10, 13]).find_break(), (2, 6))

    def test_far_out(self):
        for gain, expected in [(1, (21, 24)), (2, (11, 24)), (7, (3, 24)), (20, (2, 24)), (21, (1, 24))]:
            curve = Curve([20] * 24, gain=gain)
            self.assertEqual(curve.find_break(), expected)
            self.assertEqual(expected, plain.first_break(plain.row(([20] * 24, 1, gain), 60)))

    def test_far_out_with_long_periods(self):
        for period in PERIODS:
            for gain in range(0, 25, 3):
                values = [12] * 13 + [13] * 5 + [14] * 6
                writing = (values, period, gain)
                if values[-period] + gain >= values[-1]:
                    self.assertEqual(Curve(values, period=period, gain=gain).find_break(),
                                     plain.first_break(plain.row(writing, 120)), writing)

    def test_of_curves_that_the_package_makes(self):
        late = Curve([3, 4], gain=1).later(30)
        self.assertEqual(late.find_break(), (1, 30))
        self.assertFalse(late.is_good())
        total = Curve([20] * 24, gain=1) + Curve([1])
        self.assertEqual(total.find_break(), (22, 24))


class TestPieces(unittest.TestCase):
    def check(self, *pieces):
        curve = Curve.of_pieces(*pieces)
        for length in range(1, 150):
            self.assertEqual(curve.at(length), min(line(piece, length) for piece in pieces), (pieces, length))
        self.assertEqual(curve.at(0), 0)
        self.assertTrue(curve.is_good(), pieces)
        self.assertLessEqual(len(curve.first_values()), 24)

    def test_one_piece(self):
        for burst, units, ticks in product((0, 1, 7, 60), (0, 1, 2, 5, 12, 60), PERIODS):
            self.check((burst, units, ticks))

    def test_lines_are_rounded_up(self):
        self.assertEqual([Curve.of_pieces((0, 1, 3)).at(length) for length in range(8)], [0, 1, 1, 1, 2, 2, 2, 3])
        self.assertEqual([Curve.of_pieces((1, 2, 3)).at(length) for length in range(8)], [0, 2, 3, 3, 4, 5, 5, 6])

    def test_least_lines(self):
        for one, two in product([(0, 1, 1), (0, 3, 2), (2, 1, 1), (1, 2, 3), (3, 1, 4)], repeat=2):
            self.check(one, two)
        self.check((0, 2, 1), (3, 1, 2), (5, 1, 4))
        self.check((1, 1, 2), (1, 2, 4), (1, 3, 6), (1, 6, 12))
        self.check((3, 0, 1), (0, 1, 1))

    def test_equal_rates_of_different_periods(self):
        self.check((1, 1, 4), (0, 3, 12))
        self.check((1, 2, 3), (1, 4, 6))

    def test_forms(self):
        self.assertEqual(repr(Curve.of_pieces((0, 4, 6))), "Curve([1, 2, 2], period=3, gain=2)")
        self.assertEqual(repr(Curve.of_pieces((2, 0, 12))), "Curve([2], period=1, gain=0)")
        self.assertEqual(repr(Curve.of_pieces((0, 3, 1), (4, 1, 2))), "Curve([3, 5, 6], period=2, gain=1)")

    def test_too_long(self):
        # The lines meet at 23, 24 and 25 ticks: the flat one begins behind them.
        self.assertEqual(len(Curve.of_pieces((0, 1, 1), (23, 0, 1)).first_values()), 23)
        self.assertEqual(len(Curve.of_pieces((0, 1, 1), (24, 0, 1)).first_values()), 24)
        with self.assertRaises(TooLong) as caught:
            Curve.of_pieces((0, 1, 1), (25, 0, 1))
        self.assertEqual(caught.exception.limit, 24)
        with self.assertRaises(TooLong):
            Curve.of_pieces((0, 1, 12), (60, 0, 1))
        with self.assertRaises(TooLong):
            Curve.of_pieces((0, 12, 11 + 1), (60, 11, 12))
        self.assertEqual(len(Curve.of_pieces((0, 60, 1), (60, 0, 1)).first_values()), 1)

    def test_a_line_that_is_least_only_far_out(self):
        with self.assertRaises(TooLong):
            Curve.of_pieces((0, 12, 12), (59, 11, 12))
        self.check((0, 11, 12), (0, 12, 12), (60, 0, 1), (2, 0, 1))

    def test_limits(self):
        self.check((60, 60, 1))
        self.check((0, 0, 1))
        for piece in [(61, 1, 1), (1, 61, 1), (1, 1, 60), (1, 1, 5), (1, 1, 0), (1, 1, 24)]:
            self.refused(0, piece)

    def refused(self, position, *pieces):
        with self.assertRaises(InvalidPiece, msg=pieces) as caught:
            Curve.of_pieces(*pieces)
        self.assertEqual(caught.exception.position, position, pieces)

    def test_no_piece(self):
        self.refused(0)

    def test_wrong_pieces(self):
        good = (1, 1, 1)
        for wrong in [[1, 1, 1], (1, 1), (1, 1, 1, 1), (), None, 1, True, "111", b"111", {1: 1}, plain.Stranger()]:
            self.refused(0, wrong)
            self.refused(1, good, wrong)
            self.refused(2, good, good, wrong, wrong)
        for part in plain.NO_COUNTS:
            for at in range(3):
                wrong = tuple(part if at == place else 1 for place in range(3))
                self.refused(1, good, wrong, good)

    def test_a_wrong_piece_comes_before_too_long(self):
        self.refused(2, (0, 1, 1), (25, 0, 1), (True, 1, 1))

    def test_called_off_an_object(self):
        self.assertEqual(Curve([1]).of_pieces((2, 0, 1)), Curve([2]))


if __name__ == "__main__":
    unittest.main()
