"""First overfull windows and crowded ticks of streams with several lives, by looking at all windows and ticks."""

import random
import unittest

from dueways.crucial import hull_of, most_urgent
from dueways.loads import Load, Visit
from dueways.supply import Supply
from dueways.windows import crowded, demands, needs_of, overfull, places
from made import CURVES, curve


def drawn_visits(chance, apart=True):
    """Return one to four visits, of lives one after the other, or that may have entry ticks in common."""
    found, tick = [], chance.randint(0, 4)
    for _ in range(chance.randint(1, 4)):
        end = tick + chance.choice([0, 1, 2, 4, 7])
        found.append(Visit(chance.randint(1, 6), shift=chance.randint(0, 6), begin=tick, end=end))
        tick = end + chance.choice([0, 0, 1, 3]) if apart else chance.randint(0, end)
    if chance.randint(0, 1):
        last = found.pop()
        found.append(Visit(last.time, shift=last.shift, begin=last.begin))
    return found


def first_overfull(supply, loads, latest, longest):
    for length in range(1, longest + 1):
        for start in range(latest + 1):
            if sum(demands(loads, start, start + length)) > supply.between(start, start + length):
                return start, start + length
    return None


class TestWindowsOfLives(unittest.TestCase):
    def drawn(self, chance, apart):
        loads = [Load(curve(chance.choice(CURVES)), drawn_visits(chance, apart)) for _ in range(chance.randint(1, 3))]
        ticks = sorted(chance.sample(range(1, 20), chance.randint(0, 2)))
        return loads, Supply(chance.randint(1, 3), [(tick, chance.randint(1, 3)) for tick in ticks])

    def test_by_looking_at_all(self):
        chance = random.Random(331)
        lengths = []
        for number in range(170):
            loads, supply = self.drawn(chance, number % 4 > 0)
            told = overfull(supply, loads)
            if told is None or told[1] - told[0] > 40:
                self.assertIsNone(first_overfull(supply, loads, 34, 40))
            else:
                self.assertEqual(first_overfull(supply, loads, 34, 40), told)
            lengths.append(told and told[1] - told[0])
            room = chance.randint(1, 12)
            ticks = [tick for tick in range(60) if sum(places(loads, tick)) > room]
            self.assertEqual(crowded(room, loads), min(ticks, default=None))
        self.assertIn(None, lengths)
        self.assertGreater(len({length for length in lengths if length}), 6)

    def test_no_window_has_more_urgent_units(self):
        chance = random.Random(332)
        closer = 0
        for number in range(60):
            loads, _ = self.drawn(chance, number % 4 > 0)
            needs = needs_of(loads)
            hulls = [hull_of(visits) for _, visits in needs]
            for length in range(1, 45):
                most = most_urgent(needs, hulls, length)
                self.assertLessEqual(max(sum(demands(loads, start, start + length)) for start in range(36)), most)
                closer += most < most_urgent(needs, [None] * len(needs), length)
        self.assertGreater(closer, 300)


if __name__ == "__main__":
    unittest.main()
