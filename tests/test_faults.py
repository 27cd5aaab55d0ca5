"""Faults: their values, kinds, problems and equality."""

import unittest

from dueways.errors import InvalidFault
from dueways.faults import Fault, Hold, Idle, Leak, Swap
from plain import NO_COUNTS, NO_INTEGERS, Stranger

NO_NAMES = NO_INTEGERS + ["A", "a1", "abcdefghi", "a b", 0, -1]
FINE = {Idle: ("p", 3, 2), Swap: ("p", 3), Leak: ("x", 4, 5), Hold: ("x", 6, 1, 7)}
NAMES = {Idle: ("station", "tick", "amount"), Swap: ("station", "tick"), Leak: ("stream", "tick", "amount"),
         Hold: ("stream", "number", "place", "ticks")}
KINDS = {Idle: "idle", Swap: "swap", Leak: "leak", Hold: "hold"}
MOST = {"tick": 10 ** 18, "number": 10 ** 18, "amount": 20, "ticks": 20, "place": 4}
LEAST = {"tick": 0, "number": 0, "amount": 1, "ticks": 1, "place": 0}


class TestFaults(unittest.TestCase):
    def problem(self, made, *values, **named):
        with self.assertRaises(InvalidFault) as caught:
            made(*values, **named)
        return caught.exception.problem

    def test_properties_and_kinds(self):
        for made, values in FINE.items():
            fault = made(*values)
            self.assertIsInstance(fault, Fault)
            self.assertEqual(tuple(getattr(fault, name) for name in NAMES[made]), values)
            self.assertEqual(fault.kind(), KINDS[made])
            self.assertTrue(made(**dict(zip(NAMES[made], values))) == fault)

    def test_no_fault_is_one_of_another_kind(self):
        for made, values in FINE.items():
            self.assertEqual([other for other in FINE if isinstance(made(*values), other)], [made])

    def test_limits(self):
        for made, values in FINE.items():
            for index, name in enumerate(NAMES[made]):
                if name in MOST:
                    for limit in (LEAST[name], MOST[name]):
                        row = list(values)
                        row[index] = limit
                        self.assertEqual(getattr(made(*row), name), limit)
                    row[index] = LEAST[name] - 1
                    self.assertEqual(self.problem(made, *row), name)
                    if MOST[name] < 100:
                        row[index] = MOST[name] + 1
                        self.assertEqual(self.problem(made, *row), name)
                else:
                    row = list(values)
                    row[index] = "abcdefgh"
                    self.assertEqual(getattr(made(*row), name), "abcdefgh")

    def test_each_problem_for_any_value(self):
        for made, values in FINE.items():
            for index, name in enumerate(NAMES[made]):
                for value in NO_COUNTS if name in MOST else NO_NAMES:
                    with self.subTest(name, value=value):
                        row = list(values)
                        row[index] = value
                        self.assertEqual(self.problem(made, *row), name)
                        # All arguments behind it are wrong, too.
                        self.assertEqual(self.problem(made, *values[:index], *[value] * (len(values) - index)), name)

    def test_equality(self):
        for made, values in FINE.items():
            self.assertTrue(made(*values) == made(*values))
            self.assertFalse(made(*values) != made(*values))
            for index in range(len(values)):
                row = list(values)
                row[index] = "z" if isinstance(row[index], str) else row[index] + 1 - 2 * (row[index] == 4)
                self.assertFalse(made(*values) == made(*row))
                self.assertTrue(made(*values) != made(*row))
            for other in [other(*FINE[other]) for other in FINE if other is not made] + NO_INTEGERS + [
                    values, list(values), Stranger(), Fault()]:
                self.assertFalse(made(*values) == other)
                self.assertTrue(made(*values) != other)
        self.assertFalse(Idle("p", 3, 2) == Leak("p", 3, 2))


if __name__ == "__main__":
    unittest.main()
