"""Consoles: undo, runs, and histories beside the same operations by the functions."""

import random
import unittest

import dueways.errors as errors
from dueways.console import Console
from dueways.reserves import find_danger, with_reserves
from dueways.texts import book_text
from made import CURVES, curve, drawn_path, safe_book
from plain import NO_INTEGERS
from plain_console import PlainConsole, read
from plain_machine import told_by
from test_console import NETWORK, Case, console, done, state
from test_reserves import drawn_reserves


def seen(one):
    """Return all that can be seen of a console, and what it does in the next ticks."""
    before = state(one)
    results = [one.execute(f"step {many}") for many in (1, 1, 3)]
    after = state(one)
    for _ in results:
        one.execute("undo")
    return before, results, after


class TestUndo(Case):
    COMMANDS = ["admit x 1/1/1 20 p q", "hand x 3", "step 0", "step 2", "hand x 2", "fail r", "slow q 9 4",
                "admit y 2,2/2/1 9 q", "reroute x 9 9 p", "hand y 4", "hand x 1", "step 3", "end x", "hand y 0", "step 1"]

    def test_of_each_command(self):
        one, states = console(), []
        for command in self.COMMANDS:
            states.append(seen(one))
            one.execute(command)
        self.assertEqual(one.history(), self.COMMANDS)
        for left in range(len(self.COMMANDS) - 1, -1, -1):
            self.assertEqual(one.execute("undo"), str(left))
            self.assertEqual(seen(one), states[left])
            self.assertEqual(one.history(), self.COMMANDS[:left])
        for _ in range(2):
            self.assertEqual(one.execute("undo"), "none")
            self.assertEqual(seen(one), states[0])

    def test_and_other_commands_in_its_place(self):
        one = done(*self.COMMANDS[:6])
        self.says(one, ("undo", "5"), ("undo", "4"), ("hand x 9", "ok"), ("step 1", "3"), ("undo", "5"), ("undo", "4"),
                  ("step 1", "3"), ("entered x", "3"), ("undo", "4"), ("undo", "3"))
        self.assertEqual(one.history(), self.COMMANDS[:3])

    def test_what_does_not_count(self):
        one = done("admit x 1/1/1 20 p q", "step 2")
        for command in ("tick", "entered x", "arrived x", "times x", "late", "blame", "text"):
            one.execute(command)
        self.says(one, ("reroute x 1 3 p", "none"))
        for command in ("admit x 1/1/1 9 p", "end z", "slow p 1 1", "slow p 9 0", "hand z 1", "fail z", "steps 1"):
            with self.assertRaises((errors.DueError, RuntimeError, LookupError)):
                one.execute(command)
        self.assertEqual(one.history(), ["admit x 1/1/1 20 p q", "step 2"])
        self.says(one, ("undo", "1"), ("tick", "0"), ("undo", "0"), ("text", NETWORK), ("undo", "none"), ("undo", "none"),
                  ("step 1", "1"), ("undo", "0"))

    def test_units_that_are_handed_in(self):
        one = done("admit x 1/1/1 20 p q", "hand x 3", "step 1", "hand x 2")
        self.says(one, ("undo", "3"), ("undo", "2"), ("step 4", "4"), ("entered x", "3"), ("undo", "2"), ("undo", "1"),
                  ("step 4", "4"), ("entered x", "0"))

    def test_histories_may_be_changed(self):
        one = done("step 1", "step 0")
        one.history().clear()
        one.history().append("x")
        self.assertEqual(one.history(), ["step 1", "step 0"])


class TestRuns(Case):
    def test_results_one_by_one(self):
        commands = ["admit x 1/1/1 20 p q", "hand x 3", "reroute x 0 0 r", "step 2", "tick", "undo", "undo", "undo", "undo",
                    "step 2", "text"]
        one = console()
        asked = list(commands)
        told = one.run(commands=asked)
        self.assertEqual(asked, commands)
        self.assertEqual(told, ["1 1", "ok", "none", "2", "2", "2", "1", "0", "none", "2", NETWORK])
        self.assertEqual(one.history(), ["step 2"])
        asked.clear()
        told.clear()
        self.assertEqual(one.history(), ["step 2"])
        self.assertEqual(one.run([]), [])
        self.says(one, ("undo", "0"), ("tick", "0"))

    def test_as_one_after_the_other(self):
        one, two = console(), console()
        results = [one.execute(command) for command in TestUndo.COMMANDS]
        self.assertEqual(two.run(TestUndo.COMMANDS), results)
        self.assertEqual(seen(one), seen(two))
        self.assertEqual(two.execute("undo"), str(len(results) - 1))

    def fails(self, one, commands, position, results, error):
        before, history = seen(one), one.history()
        with self.subTest(commands), self.assertRaises(errors.RunFailed) as caught:
            one.run(commands)
        self.assertIs(type(caught.exception), errors.RunFailed)
        self.assertEqual((caught.exception.position, caught.exception.results), (position, results))
        self.assertIs(type(caught.exception.results), list)
        self.assertIs(type(caught.exception.__cause__), error)
        self.assertEqual(seen(one), before)
        self.assertEqual(one.history(), history)
        return caught.exception.__cause__

    def test_failing_ones(self):
        one = done("admit x 1/1/1 20 p q", "hand x 3", "step 1", "hand x 1")
        for command, error in [
                ("x", errors.InvalidCommand), (None, errors.InvalidCommand), (["tick"], errors.InvalidCommand),
                ("admit x 1/1/1 9 p", errors.NameTaken), ("admit z 1,3/1/1 9 p", errors.NotGood),
                ("admit z 1/1/1 9 z", errors.InvalidPath), ("admit z 1/1/1 101 p", errors.InvalidTime),
                ("admit z 9/1/9 9 p", errors.Refused), ("end z", errors.UnknownStream), ("slow z 9 1", errors.UnknownStation),
                ("slow p 0 9", errors.InvalidTick), ("slow p 9 0", errors.Overfull), ("slow p 9 21", errors.InvalidCount),
                ("reroute x 9 0 p", errors.InvalidTick), ("fail z", errors.UnknownStation), ("times z", errors.UnknownStream),
                ("entered z", errors.UnknownStream), ("arrived z", errors.UnknownStream), ("hand z 1", errors.UnknownStream)]:
            self.fails(one, [command], 0, [], error)
            self.fails(one, ["step 2", "hand x 1", "tick", command, "step 9"], 3, ["3", "ok", "3"], error)
            self.fails(one, ["undo", "undo", "undo", "undo", "undo", "fail z"], 5, ["3", "2", "1", "0", "none"],
                       errors.UnknownStation)
        self.fails(one, ["undo"] * 4 + ["fail p"], 4, ["3", "2", "1", "0"], errors.InvalidTick)
        self.fails(one, ["fail p", "fail q"], 1, ["1"], errors.NotPlain)
        ten = ["admit z" + sign + " 0/1/0 9 p" for sign in "abcdefghij"]
        self.fails(one, ten, 9, ["1"] * 9, errors.TooMany)
        cause = self.fails(one, ["step 1", "admit z 9/1/9 9 p"], 1, ["2"], errors.Refused)
        self.assertEqual(cause.refusal.begin, 2)
        reserved = console(NETWORK + "stream x 9 1/1/1\nlife 0 - p:1\nreserve q:1\n")
        self.fails(reserved, ["step 1", "end x"], 1, ["1"], errors.HasReserves)

    def test_undo_behind_a_failed_run(self):
        one = done("admit x 1/1/1 20 p q", "step 1")
        self.fails(one, ["step 4", "undo", "undo", "step 7", "x"], 4, ["5", "2", "1", "7"], errors.InvalidCommand)
        self.says(one, ("tick", "1"), ("undo", "1"), ("tick", "0"), ("times x", "1 1"), ("undo", "0"), ("text", NETWORK))

    def test_values_that_are_no_lists(self):
        one = done("step 1")
        for value in [value for value in NO_INTEGERS if not isinstance(value, list)] + [0, "tick", ("tick",), {"tick": 1}]:
            with self.subTest(value), self.assertRaises(errors.InvalidCommand) as caught:
                one.run(value)
            self.assertIs(caught.exception.value, value)
        self.assertEqual(one.history(), ["step 1"])


class TestIndependence(Case):
    def test_machines_are_copies(self):
        one = done("admit x 1/1/1 20 p q", "hand x 3", "step 2")
        before = seen(one)
        machine = one.machine()
        machine.step(handed={"x": 9})
        machine.drop("x")
        machine.book().put_stream("z", curve(CURVES[0]), 9, [(0, None, ("p",), (1,))])
        self.assertEqual(seen(one), before)
        machine = one.machine()
        one.execute("step 3")
        self.assertEqual(machine.tick, 2)

    def test_two_consoles_of_one_book(self):
        book = safe_book(random.Random(321), many=3)
        one, two = Console(book), Console(book)
        before = seen(two)
        for command in ("step 3", "end a", "slow p 5 20", "hand a 4"):
            one.execute(command)
        self.assertEqual(seen(two), before)
        self.assertEqual(two.execute("text"), book_text(book))
        book.put_stream("z", curve(CURVES[0]), 9, [(0, None, ("p",), (1,))])
        self.assertEqual(seen(two), before)


class TestHistories(Case):
    def drawn(self, chance, book):
        """Return some command for a book, which may be wrong."""
        names = book.names() + ["a", "b", "z"]
        stations = book.network.names() + (["z"] if chance.randint(0, 8) == 0 else [])
        name, station = chance.choice(names), chance.choice(stations)
        path = " ".join(drawn_path(chance, book.network))
        tick = chance.randint(0, 40)
        kind = chance.randint(0, 19)
        if kind < 4:
            return f"admit {chance.choice('abcdefg')} {curve(chance.choice(CURVES))} {chance.choice([3, 9, 40])} {path}"
        if kind < 8:
            return f"hand {name} {chance.randint(0, 5)}"
        if kind < 11:
            return f"step {chance.randint(0, 4)}"
        if kind < 13:
            return f"reroute {name} {chance.choice([2, 9, 40])} {tick} {path}"
        forms = [f"end {name}", f"slow {station} {tick} {chance.randint(0, 4)}", f"fail {station}", "undo", "undo", "undo",
                 "tick", f"entered {name}", f"arrived {name}", f"times {name}", "late", "text", "undo 1", f"step {tick} "]
        return chance.choice(forms[:2] + forms[3:]) if chance.randint(0, 5) else forms[2]

    def outcome(self, one, command):
        """Return the result of a command, or what error it raises."""
        try:
            return one.execute(command)
        except (errors.DueError, RuntimeError, LookupError, ArithmeticError) as error:
            told = dict(vars(error))
            if isinstance(error, errors.Refused):
                told = {"table": error.refusal.table(), "begin": error.refusal.begin, "path": error.refusal.path()}
            return type(error), told

    def check(self, one, plain):
        machine, _ = plain.state()
        self.assertEqual(told_by(one.machine()), told_by(machine))
        self.assertTrue(one.machine().book() == machine.book())
        self.assertEqual(one.history(), plain.done)

    def test_beside_the_functions(self):
        chance = random.Random(322)
        kinds = {}
        for number in range(45):
            book = safe_book(chance, many=3, latest=chance.choice([0, 0, 4]))
            reserves = drawn_reserves(chance, book, 6)
            if number % 3 == 0 and book.is_plain() and reserves:
                try:
                    book = with_reserves(book, reserves)
                except errors.Exposed:
                    pass
            one, plain = Console(book), PlainConsole(book)
            for _ in range(36):
                command = self.drawn(chance, one.machine().book())
                told, expected = self.outcome(one, command), self.outcome(plain, command)
                self.assertEqual(told, expected, command)
                kind = (command.split(" ")[0], isinstance(told, str))
                kinds[kind] = kinds.get(kind, 0) + 1
            self.check(one, plain)
        for word in ("admit", "hand", "step", "reroute", "end", "slow", "fail", "undo"):
            self.assertGreater(kinds.get((word, True), 0), 8, word)
        for word in ("admit", "hand", "reroute", "end", "slow", "fail"):
            self.assertGreater(kinds.get((word, False), 0), 5, word)

    def test_no_unit_is_late(self):
        # KEPT over histories of commands; blame has nothing to tell.
        chance = random.Random(323)
        units = 0
        for _ in range(40):
            one = Console(safe_book(chance, many=3, stations=3))
            for _ in range(50):
                command = self.drawn(chance, one.machine().book())
                if not command.startswith("fail"):
                    self.outcome(one, command)
            one.execute("step 30")
            self.assertEqual([one.execute("late"), one.execute("blame"), one.machine().full()], ["0", "", None])
            self.assertTrue(one.machine().book().is_safe())
            units += sum(sum(one.machine().entered(name)) for name in one.machine().book().names())
        self.assertGreater(units, 300)

    def test_one_failure(self):
        # In a protected book nobody else is late, whichever station fails, and whenever it does.
        chance = random.Random(324)
        seen_ones = 0
        while seen_ones < 25:
            book = safe_book(chance, many=3)
            reserves = drawn_reserves(chance, book, 6)
            if not reserves or not book.is_plain():
                continue
            try:
                book = with_reserves(book, reserves)
            except errors.Exposed:
                continue
            self.assertIsNone(find_danger(book))
            for failed in [name for name in book.network.names() if book.network.find(name).may_fail]:
                one = Console(book)
                for tick in range(20):
                    for name in book.names():
                        one.execute(f"hand {name} {chance.randint(0, 4)}")
                    if tick == 6:
                        lost = int(one.execute(f"fail {failed}"))
                    one.execute("step 1")
                one.execute("step 30")
                machine = one.machine()
                self.assertEqual([one.execute("late"), machine.full()], ["0", None])
                self.assertEqual(sum(len(machine.lost(name)) for name in book.names()), lost)
                seen_ones += 1

    def test_commands_are_read_alike(self):
        chance = random.Random(325)
        book = safe_book(chance, many=3)
        for _ in range(3000):
            command = self.drawn(chance, book)
            signs = list(command)
            for _ in range(chance.randint(0, 2)):
                place = chance.randrange(len(signs) + 1)
                signs[place:place + chance.randint(0, 1)] = chance.choice(["", " ", "0", "1", "a", "-", "/", ",", "\n", ":"])
            command = "".join(signs)
            one = Console(book)
            try:
                read(command)
                right = True
            except errors.InvalidCommand:
                right = False
            try:
                one.execute(command)
                self.assertTrue(right, command)
            except errors.InvalidCommand:
                self.assertFalse(right, command)
            except (errors.DueError, RuntimeError, LookupError):
                self.assertTrue(right, command)


if __name__ == "__main__":
    unittest.main()
