"""Point 10: the police."""

import random
import unittest
from itertools import product

import plain
from dueways.curves import Curve
from dueways.errors import InvalidCount, NotGood
from dueways.police import Police
from dueways.records import greedy, keeps, shaped

TWO = Curve([2, 2], period=2, gain=1)
ONE = Curve([1, 1], period=2, gain=1)
CURVES = [([1], 1, 1), ([1, 1], 2, 1), ([2, 2], 2, 1), ([3, 4, 4], 3, 2), ([0], 1, 0), ([2, 3], 1, 0),
          ([2, 2, 3, 3, 3, 4], 4, 2)]


class PlainPolice:
    """Point 10 written down plainly: each unit is an item of a list."""

    def __init__(self, writing, queue):
        self.numbers = plain.row(writing, 200)
        self.queue = queue
        self.waiting = []
        self.returned = []
        self.record = []
        self.handed = 0
        self.binding = None

    def too_many(self, entered):
        """Return the windows, shortest first, that have too many units if so many enter in the next tick."""
        record = self.record + [entered]
        return [(length, len(record) - length) for length in range(1, len(record) + 1)
                if sum(record[-length:]) > self.numbers[length]]

    def step(self, units, leak, closed):
        there = self.waiting + list(range(self.handed, self.handed + units))
        self.handed += units
        entered = 0
        while not closed and entered < len(there) and not self.too_many(entered + 1):
            entered += 1
        if not closed:
            entered += min(leak, len(there) - entered)
        left = there[entered:]
        self.waiting, back = left[:self.queue], left[self.queue:]
        bound = self.too_many(entered + 1) if self.waiting and not closed else []
        self.binding = bound[0] if bound else None
        self.record.append(entered)
        self.returned += back
        return entered, len(back)


class TestAgainstPlainPolice(unittest.TestCase):
    def hold(self, writing, queue, script):
        values, period, gain = writing
        police = Police(Curve(values, period=period, gain=gain), queue=queue)
        expected = PlainPolice(writing, queue)
        for units, leak, closed in script:
            told = police.step(units, leak=leak, closed=closed)
            place = (writing, queue, script)
            self.assertEqual(told, expected.step(units, leak, closed), place)
            self.assertEqual(police.held, len(expected.waiting), place)
            self.assertEqual(police.returned, len(expected.returned), place)
            self.assertEqual(police.binding(), expected.binding, place)
        self.assertEqual(police.record(), expected.record)
        self.assertEqual(police.queue, queue)

    def test_all_short_scripts(self):
        ticks = list(product((0, 1, 3), (0, 2), (False, True)))
        for writing in CURVES[:4]:
            for script in product(ticks, repeat=3):
                self.hold(writing, 2, script)

    def test_long_scripts(self):
        chance = random.Random(10)
        for writing in CURVES:
            for queue in (0, 1, 3, 60):
                for _ in range(12):
                    script = [(chance.choice((0, 0, 0, 1, 1, 2, 5, 80)), chance.choice((0, 0, 0, 0, 1, 4)),
                               chance.random() < 0.15) for _ in range(40)]
                    self.hold(writing, queue, script)


class TestStep(unittest.TestCase):
    def test_a_heap_enters_as_the_greedy_record(self):
        police = Police(TWO)
        told = [police.step(60)] + [police.step(0) for _ in range(9)]
        self.assertEqual([entered for entered, _ in told], greedy(TWO, 10))
        self.assertEqual(police.held, 60 - sum(greedy(TWO, 10)))

    def test_without_leaks_the_record_is_the_shaped_one(self):
        for record in plain.records(5, 2):
            police = Police(TWO)
            for units in record:
                police.step(units)
            self.assertEqual(police.record(), shaped(record, TWO))

    def test_the_queue(self):
        for queue, held, back in [(0, 0, 98), (1, 1, 97), (5, 5, 93), (60, 60, 38), (98, 98, 0), (10 ** 18, 98, 0)]:
            police = Police(TWO, queue=queue)
            self.assertEqual(police.step(100), (2, back))
            self.assertEqual((police.held, police.returned, police.queue), (held, back, queue))

    def test_the_queue_left_out(self):
        police = Police(ONE)
        self.assertEqual(police.queue, 60)
        self.assertEqual(police.step(61), (1, 0))
        self.assertEqual(police.step(1), (0, 1))

    def test_returned_units_add_up(self):
        police = Police(ONE, queue=1)
        self.assertEqual([police.step(3), police.step(2), police.step(2)], [(1, 1), (0, 2), (1, 1)])
        self.assertEqual(police.returned, 4)

    def test_gaps_let_the_curve_recover(self):
        police = Police(TWO)
        self.assertEqual([police.step(units)[0] for units in (2, 0, 0, 2, 0, 0, 0, 2)], [2, 0, 0, 1, 1, 0, 0, 1])
        police = Police(TWO)
        self.assertEqual([police.step(units)[0] for units in (2, 0, 0, 0, 2, 0, 2)], [2, 0, 0, 0, 2, 0, 1])

    def test_a_closed_tick(self):
        police = Police(TWO, queue=2)
        self.assertEqual(police.step(3, closed=True), (0, 1))
        self.assertEqual(police.step(0, leak=9, closed=True), (0, 0))
        self.assertEqual(police.held, 2)
        self.assertEqual(police.step(0), (2, 0))
        self.assertEqual(police.record(), [0, 0, 2])

    def test_a_leak(self):
        police = Police(ONE, queue=2)
        self.assertEqual(police.step(9, leak=3), (4, 3))
        self.assertEqual(police.step(0, leak=0), (0, 0))
        self.assertEqual(police.step(0, leak=5), (2, 0))
        self.assertFalse(keeps(police.record(), ONE))

    def test_a_leak_lets_only_units_enter_that_are_there(self):
        police = Police(ONE)
        self.assertEqual(police.step(0, leak=3), (0, 0))
        self.assertEqual(police.step(1, leak=3), (1, 0))

    def test_none_enter_while_a_window_has_more_anyway(self):
        police = Police(ONE)
        police.step(4, leak=3)
        # Four units are as many as the curve allows in seven ticks.
        self.assertEqual([police.step(1)[0] for _ in range(10)], [0] * 7 + [1, 0, 1])

    def test_a_curve_of_nothing(self):
        police = Police(Curve([0]), queue=1)
        self.assertEqual([police.step(2), police.binding(), police.step(0, leak=1)], [(0, 1), (1, 0), (1, 0)])

    def test_by_names(self):
        police = Police(curve=TWO, queue=3)
        self.assertEqual(police.step(units=9, leak=1, closed=False), (3, 3))

    def test_great_counts(self):
        police = Police(TWO)
        self.assertEqual(police.step(10 ** 18), (2, 10 ** 18 - 62))
        self.assertEqual(police.step(0, leak=10 ** 18), (60, 0))

    def test_a_long_run(self):
        police = Police(TWO)
        told = [police.step(3)[0] for _ in range(400)]
        self.assertEqual(told, greedy(TWO, 400))

    def test_each_record_is_new(self):
        police = Police(TWO)
        police.step(1)
        police.record().append(5)
        police.record()[0] = 7
        self.assertEqual(police.record(), [1])
        self.assertEqual(police.step(9), (1, 0))

    def test_the_properties_cannot_be_set(self):
        for name in ("held", "queue", "returned"):
            with self.assertRaises(AttributeError):
                setattr(Police(TWO), name, 1)


class TestBinding(unittest.TestCase):
    def test_ahead_of_the_first_tick(self):
        self.assertIsNone(Police(TWO).binding())
        self.assertIsNone(Police(Curve([0])).binding())

    def test_no_units_wait(self):
        police = Police(TWO)
        police.step(2)
        self.assertIsNone(police.binding())
        police = Police(TWO, queue=0)
        police.step(9)
        self.assertIsNone(police.binding())

    def test_the_shortest_window(self):
        police = Police(TWO)
        told = []
        for units in (9, 0, 0, 0, 0):
            police.step(units)
            told.append(police.binding())
        self.assertEqual(told, [(1, 0), (2, 0), (3, 0), (4, 0), (5, 0)])
        police = Police(Curve([2, 3], gain=1))
        told = []
        for units in (1, 3, 0, 1, 0):
            police.step(units)
            told.append(police.binding())
        self.assertEqual(told, [None, (1, 1), None, None, None])
        self.assertEqual(police.record(), [1, 2, 1, 1, 0])

    def test_a_window_behind_the_first_tick(self):
        police = Police(TWO)
        for units in (0, 0, 2, 1):
            police.step(units)
        self.assertEqual(police.binding(), (2, 2))

    def test_behind_closed_ticks(self):
        police = Police(ONE)
        police.step(3)
        police.step(0, closed=True)
        self.assertEqual(police.held, 2)
        self.assertIsNone(police.binding())
        police.step(0, closed=True)
        self.assertIsNone(police.binding())
        police.step(0)
        self.assertEqual(police.binding(), (1, 3))
        police.step(0)
        self.assertEqual(police.binding(), (2, 3))

    def test_behind_a_leak(self):
        police = Police(TWO)
        police.step(9, leak=3)
        self.assertEqual(police.binding(), (1, 0))
        police.step(0)
        self.assertEqual(police.binding(), (2, 0))

    def test_asking_changes_nothing(self):
        police = Police(ONE)
        police.step(2)
        self.assertEqual([police.binding(), police.binding(), police.held], [(1, 0), (1, 0), 1])
        self.assertEqual(police.record(), [1])


class TestClone(unittest.TestCase):
    def test_a_clone_is_as_the_police(self):
        police = Police(ONE, queue=2)
        police.step(5, leak=1)
        twin = police.clone()
        self.assertIsInstance(twin, Police)
        for one in (police, twin):
            self.assertEqual((one.held, one.queue, one.returned), (2, 2, 1))
            self.assertEqual((one.record(), one.binding()), ([2], (1, 0)))
        self.assertEqual([police.step(1), police.step(0)], [twin.step(1), twin.step(0)])

    def test_clones_are_independent(self):
        police = Police(ONE)
        police.step(3)
        twin = police.clone()
        police.step(4)
        self.assertEqual((twin.record(), twin.held), ([1], 2))
        twin.step(0, closed=True)
        twin.step(0)
        self.assertEqual((police.record(), police.held, police.binding()), ([1, 0], 6, (2, 0)))
        self.assertEqual((twin.record(), twin.held), ([1, 0, 1], 1))

    def test_a_clone_behind_a_closed_tick(self):
        police = Police(ONE)
        police.step(3)
        police.step(0, closed=True)
        twin = police.clone()
        self.assertIsNone(twin.binding())
        self.assertEqual([twin.step(0), twin.binding()], [(1, 0), (1, 2)])

    def test_polices_of_one_curve_are_independent(self):
        one, two = Police(ONE), Police(ONE)
        one.step(5)
        self.assertEqual((two.held, two.record()), (0, []))
        self.assertEqual(two.step(1), (1, 0))


class TestErrors(unittest.TestCase):
    def test_a_curve_that_is_not_good(self):
        for queue in (60, -1, True):
            with self.assertRaises(NotGood) as caught:
                Police(Curve([1, 1, 3]), queue=queue)
            self.assertEqual((caught.exception.first, caught.exception.second), (1, 2))

    def test_wrong_queues(self):
        for value in plain.NO_COUNTS:
            with self.assertRaises(InvalidCount, msg=value) as caught:
                Police(TWO, queue=value)
            self.assertIs(caught.exception.value, value)

    def test_the_queue_is_passed_by_name(self):
        with self.assertRaises(TypeError):
            Police(TWO, 3)
        with self.assertRaises(TypeError):
            Police(TWO).step(1, 0)

    def test_wrong_units_and_leaks_change_nothing(self):
        police = Police(ONE, queue=2)
        police.step(4)
        for value in plain.NO_COUNTS:
            for given in ({"units": value}, {"units": 1, "leak": value}, {"units": value, "leak": -5}):
                with self.assertRaises(InvalidCount, msg=given) as caught:
                    police.step(**given)
                self.assertIs(caught.exception.value, value)
        self.assertEqual((police.held, police.returned, police.record()), (2, 1, [1]))
        self.assertEqual(police.binding(), (1, 0))
        self.assertEqual([police.step(0), police.step(0)], [(0, 0), (1, 0)])


if __name__ == "__main__":
    unittest.main()
