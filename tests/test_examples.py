"""The examples of the interface, as they stand in the document.

In that of Stage 6 the document leaves out what admit returns; it stands here.
"""

import doctest
import unittest

EXAMPLES = [
    """
>>> from dueways.curves import Curve
>>> from dueways.records import greedy, shaped
>>> curve = Curve([2, 2], period=2, gain=1)
>>> [greedy(curve, 5), shaped([4, 0, 0, 0], curve)]
[[2, 0, 1, 0, 1], [2, 0, 1, 0]]
""",
    """
>>> from dueways.curves import Curve
>>> from dueways.police import Police
>>> police = Police(Curve([1, 1], period=2, gain=1), queue=1)
>>> told = [police.step(3), police.binding(), police.step(0), police.binding(), police.step(0)]
>>> [told, police.record(), police.held, police.returned]
[[(1, 1), (1, 0), (0, 0), (2, 0), (1, 0)], [1, 0, 1], 0, 1]
""",
    """
>>> from dueways.curves import Curve
>>> from dueways.loads import Load, Visit, demand
>>> curve = Curve([3, 3, 3, 3, 3, 3], period=6, gain=1)
>>> load = Load(curve, [Visit(1, end=2), Visit(1, begin=4, end=6)])
>>> [demand(load, 0, 3), demand(load, 0, 7)]
[3, 3]
""",
    """
>>> from dueways.curves import Curve
>>> from dueways.loads import Load, Visit
>>> from dueways.supply import Supply
>>> from dueways.windows import overfull
>>> curve = Curve([2, 2], period=2, gain=1)
>>> loads = [Load(curve, [Visit(2)]), Load(curve, [Visit(4)])]
>>> overfull(Supply(1), loads)
(0, 4)
""",
    """
>>> from dueways.admission import admit, fastest, least_total
>>> from dueways.book import Book
>>> from dueways.curves import Curve
>>> from dueways.network import Network, Station
>>> curve = Curve([2, 2], period=2, gain=1)
>>> stations = [Station('cpu', 1, 8), Station('disk', 2, 8)]
>>> book = Book(Network(stations, [('cpu', 'disk', 1)]))
>>> first = admit(book, 'a', curve, ['cpu'], 10)
>>> second = admit(book, 'b', curve, ['cpu', 'disk'], 20)
>>> [first, second, book.lives_of('b')]
[[2], [5, 1], [(0, None, ('cpu', 'disk'), (5, 1))]]
""",
    """
>>> from dueways.curves import Curve
>>> from dueways.network import Network, Station
>>> from dueways.book import Book
>>> from dueways.runs import forced, play, first_trouble
>>> from dueways.machine import Machine
>>> book = Book(Network([Station('a', 1, 5)]))
>>> book = forced(book, 's', Curve([1], period=1, gain=1), ['a'], [2])
>>> machine = Machine(book)
>>> machine.step(handed={'s': 1})
>>> machine.units('a')
[('s', 0, 2, True)]
""",
    """
>>> from dueways.curves import Curve
>>> from dueways.network import Network, Station
>>> from dueways.book import Book
>>> from dueways.runs import forced, play, first_trouble
>>> from dueways.machine import Machine
>>> network = Network([Station('a', 1, 5), Station('b', 1, 5)], [('a', 'b', 0)])
>>> book = forced(Book(network), 's', Curve([1], period=1, gain=1), ['a', 'b'], [1, 2])
>>> machine = play(book, {'s': (0, [1])}, 3)
>>> [machine.released('b'), machine.arrivals('s'), machine.late()]
[[(1, 's', 0)], [3], []]
""",
    """
>>> from dueways.admission import admit
>>> from dueways.book import Book
>>> from dueways.curves import Curve
>>> from dueways.network import Network, Station
>>> from dueways.changes import reroute
>>> book = Book(Network([Station("p", 1, 4), Station("q", 1, 4)], [("p", "q", 2)]))
>>> admit(book, "x", Curve([1], gain=1), ["p", "q"], 9)
[1, 1]
>>> told = reroute(book, "x", ["p"], 4, at=5, until=7)
>>> [told, book.lives_of("x"), book.within_of("x")]
[(5, [3]), [(0, 5, ('p', 'q'), (1, 1)), (5, None, ('p',), (3,))], 4]
""",
    """
>>> from dueways.admission import admit
>>> from dueways.book import Book
>>> from dueways.cases import split_all
>>> from dueways.curves import Curve
>>> from dueways.network import Network, Station
>>> book = Book(Network([Station('a', 1, 9)]))
>>> one = Curve([1])
>>> first = admit(book, 'x', one, ['a'], 3)
>>> more = split_all(book, 'y', one, ['a'], 1)
>>> [first, more.lives_of('x'), more.lives_of('y'), book.names()]
[[1], [(0, None, ('a',), (2,))], [(0, None, ('a',), (1,))], ['x']]
""",
]


class TestExamples(unittest.TestCase):
    def test_examples(self):
        parser = doctest.DocTestParser()
        for number, text in enumerate(EXAMPLES):
            with self.subTest(number):
                example = parser.get_doctest(text, {}, f"example {number}", None, None)
                told = []
                self.assertEqual(doctest.DocTestRunner(verbose=False).run(example, out=told.append).failed, 0,
                                 "".join(told))


if __name__ == "__main__":
    unittest.main()
