"""The interface: what exists, in which file, and with which arguments."""

import importlib
import inspect
import unittest

FUNCTIONS = {
    "dueways.records": {
        "most_in": "(record, length)", "keeps": "(record, curve)", "breach": "(record, curve)",
        "tightest": "(record)", "greedy": "(curve, ticks)", "shaped": "(record, curve)",
    },
    "dueways.loads": {
        "stretch": "(visit, start, end)", "demand": "(load, start, end)", "matching": "(load, start, end)",
        "full_record": "(load, start, end)",
    },
    "dueways.windows": {
        "demands": "(loads, start, end)", "overfull": "(supply, loads)", "is_overfull": "(supply, loads, value)",
        "places": "(loads, tick)", "crowded": "(room, loads)", "full_tick": "(load, tick)",
    },
    "dueways.network": {"check_split": "(network, path, value)"},
    "dueways.admission": {
        "admit": "(book, name, curve, path, within, *, begin=0, split=None)",
        "least_total": "(book, curve, path, *, begin=0)", "fastest": "(book, curve, source, target, *, begin=0)",
    },
    "dueways.runs": {
        "forced": "(book, name, curve, path, split, *, begin=0)", "play": "(book, run, ticks)",
        "first_trouble": "(machine)",
    },
    "dueways.changes": {
        "end_stream": "(book, name, at)", "earliest": "(book, name, curve, path, within, *, begin, until)",
        "reroute": "(book, name, path, within, *, at, until)", "change_capacity": "(book, station, at, capacity)",
        "shed": "(book, station, at, capacity, weights)",
    },
    "dueways.cases": {
        "split_all": "(book, name, curve, path, within)", "is_refusal": "(book, name, curve, path, within, value)",
    },
    "dueways.reserves": {
        "with_reserves": "(book, reserves)", "loads_after": "(book, failed, tick, station)",
        "after": "(book, failed, tick)", "find_danger": "(book)", "fail": "(machine, station)",
    },
    "dueways.blame": {"breaches": "(machine)", "chain": "(machine, station, stream, number)"},
    "dueways.accounts": {
        "own_curve": "(machine, stream)", "needed": "(machine, station)", "spared": "(machine, index)",
    },
    "dueways.texts": {
        "network_text": "(network)", "book_text": "(book)", "load_network": "(text)", "load_book": "(text)",
    },
}
CLASSES = {
    ("dueways.curves", "Curve"): {
        "__init__": "(self, values, *, period=1, gain=0)", "of_pieces": "(*pieces)", "at": "(self, length)",
        "period": None, "gain": None, "rate": None, "first_values": "(self)", "at_most": "(self, other)",
        "find_break": "(self)", "is_good": "(self)", "later": "(self, ticks)",
        "first_above": "(self, capacity)", "shortest_for": "(self, units)",
    },
    ("dueways.police", "Police"): {
        "__init__": "(self, curve, *, queue=60)", "step": "(self, units, *, leak=0, closed=False)",
        "held": None, "queue": None, "returned": None, "record": "(self)", "binding": "(self)", "clone": "(self)",
    },
    ("dueways.loads", "Visit"): {
        "__init__": "(self, time, *, shift=0, begin=0, end=None)", "time": None, "shift": None, "begin": None,
        "end": None, "__eq__": "(self, other)", "__repr__": "(self)",
    },
    ("dueways.loads", "Load"): {"__init__": "(self, curve, visits)", "curve": None, "visits": "(self)"},
    ("dueways.supply", "Supply"): {
        "__init__": "(self, capacity, changes=())", "at": "(self, tick)", "between": "(self, start, end)",
        "changes": "(self)", "__eq__": "(self, other)",
    },
    ("dueways.network", "Station"): {
        "__init__": "(self, name, capacity, room, *, may_fail=False)", "name": None, "capacity": None, "room": None,
        "may_fail": None,
    },
    ("dueways.network", "Network"): {
        "__init__": "(self, stations, links=())", "names": "(self)", "links": "(self)", "find": "(self, name)",
        "link": "(self, source, target)", "check_path": "(self, value)", "__eq__": "(self, other)",
    },
    ("dueways.book", "Book"): {
        "__init__": "(self, network)", "network": None, "names": "(self)", "curve_of": "(self, name)",
        "within_of": "(self, name)", "lives_of": "(self, name)", "loads_of": "(self, station)",
        "supply_of": "(self, station)", "reserve_of": "(self, name)", "is_safe": "(self)", "is_plain": "(self)",
        "clone": "(self)", "__eq__": "(self, other)", "__len__": "(self)", "__contains__": "(self, name)",
    },
    ("dueways.admission", "Refusal"): {
        "name": None, "within": None, "begin": None, "path": "(self)", "table": "(self)",
        "trouble": "(self, split)", "run": "(self, split)",
    },
    ("dueways.faults", "Fault"): {"kind": "(self)"},
    ("dueways.faults", "Idle"): {
        "__init__": "(self, station, tick, amount)", "station": None, "tick": None, "amount": None,
        "kind": "(self)", "__eq__": "(self, other)",
    },
    ("dueways.faults", "Swap"): {
        "__init__": "(self, station, tick)", "station": None, "tick": None, "kind": "(self)",
        "__eq__": "(self, other)",
    },
    ("dueways.faults", "Leak"): {
        "__init__": "(self, stream, tick, amount)", "stream": None, "tick": None, "amount": None,
        "kind": "(self)", "__eq__": "(self, other)",
    },
    ("dueways.faults", "Hold"): {
        "__init__": "(self, stream, number, place, ticks)", "stream": None, "number": None, "place": None,
        "ticks": None, "kind": "(self)", "__eq__": "(self, other)",
    },
    ("dueways.machine", "Machine"): {
        "__init__": "(self, book, *, queue=60, faults=())", "tick": None, "book": "(self)",
        "step": "(self, *, handed=None, loose=None)", "entered": "(self, stream)", "waiting": "(self, stream)",
        "sent_back": "(self, stream)", "arrivals": "(self, stream)", "lost": "(self, stream)",
        "units": "(self, station)", "released": "(self, station)", "served": "(self, station)",
        "loose": "(self, station)", "late": "(self)", "full": "(self)", "use": "(self, book)",
        "drop": "(self, stream)", "clone": "(self)",
    },
    ("dueways.console", "Console"): {
        "__init__": "(self, book)", "execute": "(self, command)", "run": "(self, commands)", "machine": "(self)",
        "history": "(self)",
    },
}


class TestInterface(unittest.TestCase):
    def test_functions(self):
        for module, functions in FUNCTIONS.items():
            for name, arguments in functions.items():
                with self.subTest(name):
                    found = getattr(importlib.import_module(module), name)
                    self.assertEqual(found.__module__, module)
                    self.assertEqual(str(inspect.signature(found)), arguments)

    def test_classes(self):
        for (module, name), members in CLASSES.items():
            found = getattr(importlib.import_module(module), name)
            self.assertEqual(found.__module__, module)
            for member, arguments in members.items():
                with self.subTest(name, member=member):
                    self.assertIn(member, vars(found))
                    if arguments is None:
                        self.assertIsInstance(vars(found)[member], property)
                    else:
                        self.assertEqual(str(inspect.signature(getattr(found, member))), arguments)


if __name__ == "__main__":
    unittest.main()
