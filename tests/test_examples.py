"""The examples of the interface, as they stand in the document."""

import doctest
import unittest

EXAMPLES = [
    """
>>> from dueways.curves import Curve
>>> from dueways.records import greedy, shaped
>>> curve = Curve([2, 2], period=2, gain=1)
>>> [greedy(curve, 5), shaped([4, 0, 0, 0], curve)]
[[2, 0, 1, 0, 1], [2, 0, 1, 0]]
""",
    """
>>> from dueways.curves import Curve
>>> from dueways.police import Police
>>> police = Police(Curve([1, 1], period=2, gain=1), queue=1)
>>> told = [police.step(3), police.binding(), police.step(0), police.binding(), police.step(0)]
>>> [told, police.record(), police.held, police.returned]
[[(1, 1), (1, 0), (0, 0), (2, 0), (1, 0)], [1, 0, 1], 0, 1]
""",
    """
>>> from dueways.curves import Curve
>>> from dueways.loads import Load, Visit, demand
>>> curve = Curve([3, 3, 3, 3, 3, 3], period=6, gain=1)
>>> load = Load(curve, [Visit(1, end=2), Visit(1, begin=4, end=6)])
>>> [demand(load, 0, 3), demand(load, 0, 7)]
[3, 3]
""",
    """
>>> from dueways.curves import Curve
>>> from dueways.loads import Load, Visit
>>> from dueways.supply import Supply
>>> from dueways.windows import overfull
>>> curve = Curve([2, 2], period=2, gain=1)
>>> loads = [Load(curve, [Visit(2)]), Load(curve, [Visit(4)])]
>>> overfull(Supply(1), loads)
(0, 4)
""",
    """
>>> from dueways.admission import admit, fastest, least_total
>>> from dueways.book import Book
>>> from dueways.curves import Curve
>>> from dueways.network import Network, Station
>>> curve = Curve([2, 2], period=2, gain=1)
>>> stations = [Station('cpu', 1, 8), Station('disk', 2, 8)]
>>> book = Book(Network(stations, [('cpu', 'disk', 1)]))
>>> first = admit(book, 'a', curve, ['cpu'], 10)
>>> second = admit(book, 'b', curve, ['cpu', 'disk'], 20)
>>> [first, second, book.lives_of('b')]
[[2], [5, 1], [(0, None, ('cpu', 'disk'), (5, 1))]]
""",
]


class TestExamples(unittest.TestCase):
    def test_examples(self):
        parser = doctest.DocTestParser()
        for number, text in enumerate(EXAMPLES):
            with self.subTest(number):
                example = parser.get_doctest(text, {}, f"example {number}", None, None)
                told = []
                self.assertEqual(doctest.DocTestRunner(verbose=False).run(example, out=told.append).failed, 0,
                                 "".join(told))


if __name__ == "__main__":
    unittest.main()
