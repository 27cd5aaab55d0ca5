"""What the faults of a machine do together."""

from dueways.faults import Hold, Idle, Leak, Swap


class FaultPlan:
    """How much all faults of one kind change for the same part and tick, or for the same unit and place."""

    def __init__(self, faults):
        self._amounts = {}
        for fault in faults:
            asked, amount = described(fault)
            self._amounts[asked] = self._amounts.get(asked, 0) + amount

    def idle(self, station, tick):
        """Return by how much the capacity of a station is less in a tick."""
        return self._amounts.get(("idle", station, tick), 0)

    def is_swapped(self, station, tick):
        """Return whether a station serves in the wrong sequence in a tick."""
        return ("swap", station, tick) in self._amounts

    def leak(self, stream, tick):
        """Return how many more units of a stream may enter in a tick."""
        return self._amounts.get(("leak", stream, tick), 0)

    def hold(self, stream, number, index):
        """Return how many ticks later a unit is released at the station with an index in its path."""
        return self._amounts.get(("hold", stream, number, index), 0)


def described(fault):
    """Return the tuple (what a fault is about, its amount)."""
    if isinstance(fault, Idle):
        return ("idle", fault.station, fault.tick), fault.amount
    if isinstance(fault, Swap):
        return ("swap", fault.station, fault.tick), 1
    if isinstance(fault, Leak):
        return ("leak", fault.stream, fault.tick), fault.amount
    return ("hold", fault.stream, fault.number, fault.place), fault.ticks


def find_wrong_fault(book, faults):
    """Return the position of the first value that is no fault of a part of the book, 0 if this is no list, or None."""
    if not isinstance(faults, (list, tuple)):
        return 0
    for position, fault in enumerate(faults):
        if not is_fault_in(book, fault):
            return position
    return None


def is_fault_in(book, value):
    """Return whether a value is a fault of a part that a book has."""
    if isinstance(value, (Idle, Swap)):
        return value.station in book.network.names()
    if isinstance(value, (Leak, Hold)):
        return value.stream in book
    return False
