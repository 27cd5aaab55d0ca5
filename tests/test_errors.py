"""The interface, its part dueways/errors.py."""

import unittest

from plain import Stranger
import dueways.errors as errors

CLASSES = [
    ("DueError", ValueError, ""),
    ("InvalidCurve", errors.DueError, "problem position"),
    ("InvalidPiece", errors.DueError, "position"),
    ("InvalidLength", errors.DueError, "value"),
    ("InvalidCount", errors.DueError, "value"),
    ("InvalidRecord", errors.DueError, "position"),
    ("InvalidVisit", errors.DueError, "problem"),
    ("InvalidVisits", errors.DueError, "position"),
    ("InvalidSupply", errors.DueError, "position"),
    ("InvalidWindow", errors.DueError, "value"),
    ("InvalidStation", errors.DueError, "problem"),
    ("InvalidNetwork", errors.DueError, "problem position"),
    ("InvalidName", errors.DueError, "value"),
    ("InvalidPath", errors.DueError, "position"),
    ("InvalidSplit", errors.DueError, "position"),
    ("InvalidTime", errors.DueError, "value"),
    ("InvalidTick", errors.DueError, "value"),
    ("InvalidFault", errors.DueError, "problem"),
    ("InvalidFaults", errors.DueError, "position"),
    ("InvalidHanded", errors.DueError, ""),
    ("InvalidBook", errors.DueError, ""),
    ("InvalidWeights", errors.DueError, ""),
    ("InvalidText", errors.DueError, "line"),
    ("InvalidCommand", errors.DueError, "value"),
    ("UnknownStation", LookupError, "value"),
    ("UnknownStream", LookupError, "value"),
    ("UnknownUnit", LookupError, "value"),
    ("NoLink", LookupError, "source target"),
    ("NameTaken", RuntimeError, "taken"),
    ("NotGood", RuntimeError, "first second"),
    ("TooSlow", RuntimeError, "total"),
    ("Refused", RuntimeError, "refusal"),
    ("Overfull", RuntimeError, "at_station window"),
    ("NotPlain", RuntimeError, ""),
    ("HasReserves", RuntimeError, ""),
    ("NoSplits", RuntimeError, "cases"),
    ("Exposed", RuntimeError, "danger"),
    ("NotLate", RuntimeError, "value"),
    ("RunFailed", RuntimeError, "position results"),
    ("TooLong", ArithmeticError, "limit"),
    ("TooMany", ArithmeticError, "limit"),
]
VALUES = [0, -7, True, None, "", "text", b"bytes", [1, [2]], (1, 2), {1: 2}, {3}, int, len, Stranger()]
OUTER = [ValueError, LookupError, RuntimeError, ArithmeticError]


class TestErrors(unittest.TestCase):
    def test_bases(self):
        for name, base, _ in CLASSES:
            with self.subTest(name):
                self.assertEqual(getattr(errors, name).__bases__, (base,))

    def test_no_other_relations(self):
        for name, base, _ in CLASSES:
            for other, _, _ in CLASSES:
                with self.subTest(name, other=other):
                    related = name == other or (other == "DueError" and base is errors.DueError)
                    self.assertEqual(issubclass(getattr(errors, name), getattr(errors, other)), related)

    def test_builtin_kinds(self):
        for name, base, _ in CLASSES:
            made = getattr(errors, name)
            with self.subTest(name):
                kind = ValueError if base is errors.DueError else base
                self.assertEqual([outer for outer in OUTER if issubclass(made, outer)], [kind])

    def test_attributes_by_position_and_by_name(self):
        for name, _, listed in CLASSES:
            names = listed.split()
            for shift in range(len(VALUES)):
                given = [VALUES[(shift + at) % len(VALUES)] for at in range(len(names))]
                if not names:
                    continue
                with self.subTest(name, given=given):
                    made = getattr(errors, name)
                    for error in (made(*given), made(**dict(zip(names, given)))):
                        self.assertEqual(sorted(vars(error)), sorted(names))
                        for attribute, expected in zip(names, given):
                            self.assertIs(getattr(error, attribute), expected)

    def test_messages(self):
        for name, _, listed in CLASSES:
            if not listed:
                with self.subTest(name):
                    self.assertEqual(str(getattr(errors, name)("so it is")), "so it is")

    def test_all_can_be_raised(self):
        for name, _, listed in CLASSES:
            made = getattr(errors, name)
            given = listed.split() or ["a message"]
            with self.subTest(name), self.assertRaises(made):
                raise made(*given)

    def test_wrong_number_of_arguments(self):
        for name, _, listed in CLASSES:
            if listed:
                with self.subTest(name), self.assertRaises(TypeError):
                    getattr(errors, name)()


if __name__ == "__main__":
    unittest.main()
