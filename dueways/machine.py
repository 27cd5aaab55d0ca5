"""Machines: the simulation of a book, tick by tick."""

from dueways.bench import Bench
from dueways.counts import is_count, require_count
from dueways.errors import InvalidBook, InvalidFaults, InvalidHanded
from dueways.fault_plan import FaultPlan, find_wrong_fault
from dueways.police import Police
from dueways.succession import life_at, may_follow
from dueways.units import Unit, way_of


class Machine:
    """A book's polices, and the units at its stations and between them."""

    def __init__(self, book, *, queue=60, faults=()):
        require_count(queue)
        wrong = find_wrong_fault(book, faults)
        if wrong is not None:
            raise InvalidFaults(wrong)
        self._queue = queue
        self._faults = list(faults)
        self._plan = FaultPlan(faults)
        self._done = 0
        # What was handed in at the polices in each tick.
        self._handed = []
        self._polices = {}
        self._units = {}
        self._benches = {station: Bench() for station in book.network.names()}
        # The units that will be released in each tick.
        self._coming = {}
        # The (due, station, stream, number) of each unit that was late at a station.
        self._late = []
        self._full = None
        self._take_over(book)

    @property
    def tick(self):
        """The present tick: how many ticks were done."""
        return self._done

    def book(self):
        """Return a copy of the book."""
        return self._book.clone()

    def step(self, *, handed=None, loose=None):
        """Do one tick in which these units are handed in, by streams, and these loose ones, by stations."""
        require_handed(handed, self._book.names())
        require_handed(loose, self._book.network.names())
        self._handed.append(dict(handed or {}))
        self._enter(self._handed[-1])
        self._release()
        for station in self._benches:
            self._serve(station, (loose or {}).get(station, 0))
        for station in self._benches:
            self._leave(station)
        self._done += 1

    def entered(self, stream):
        """Return the entered record of a stream."""
        self._book.require_stream(stream)
        return self._polices[stream].record()

    def waiting(self, stream):
        """Return how many units of a stream wait at its police."""
        self._book.require_stream(stream)
        return self._polices[stream].held

    def sent_back(self, stream):
        """Return how many units of a stream were returned so far."""
        self._book.require_stream(stream)
        return self._polices[stream].returned

    def arrivals(self, stream):
        """Return for each entered unit the tick in which it arrives if it has left the last station, else None."""
        self._book.require_stream(stream)
        return [unit.arrival for unit in self._units[stream]]

    def lost(self, stream):
        """Return the sorted list of the numbers of the lost units of a stream."""
        self._book.require_stream(stream)
        return [unit.serial for unit in self._units[stream] if unit.was_lost]

    def units(self, station):
        """Return the (stream, number, due, served) of the units that have a place as the present tick begins."""
        self._book.network.find(station)
        present = self._in_sequence(self._benches[station].present())
        return [(unit.owner, unit.serial, unit.due(), unit.served_at() is not None) for unit in present]

    def released(self, station):
        """Return the list of the (tick, stream, number) of the units released at a station."""
        self._book.network.find(station)
        return self._benches[station].released()

    def served(self, station):
        """Return the list of the (tick, stream, number) of the units served at a station."""
        self._book.network.find(station)
        return self._benches[station].served()

    def loose(self, station):
        """Return how many loose units wait at a station, and the list of how many were served in each tick."""
        self._book.network.find(station)
        return self._benches[station].loose()

    def late(self):
        """Return the list of the (due, station, stream, number) of all units that are or were late."""
        stations = ranks(self._book.network.names())
        streams = ranks(self._book.names())
        return sorted(self._late, key=lambda one: (one[0], stations[one[1]], streams[one[2]], one[3]))

    def full(self):
        """Return the first (tick, station) at which a station was full, or None."""
        return self._full

    def use(self, book):
        """Work by another book from the present tick on."""
        if not may_follow(self._book, book, self._done):
            raise InvalidBook("the book does not go on from the machine's book")
        self._take_over(book)

    def drop(self, stream):
        """Lose all units of a stream that have not arrived; return their (number, station), by number."""
        self._book.require_stream(stream)
        dropped = [unit for unit in self._units[stream] if unit.arrival is None and not unit.was_lost]
        for unit in dropped:
            unit.was_lost = True
        for tick, units in list(self._coming.items()):
            self._coming[tick] = [unit for unit in units if not unit.was_lost]
        return [(unit.serial, unit.where() if unit.has_place else None) for unit in dropped]

    def faults(self):
        """Return the list of the faults."""
        return list(self._faults)

    def repeated(self, faults):
        """Return a machine with other faults in which the same units were handed in in the same ticks."""
        twin = Machine(self._book, queue=self._queue, faults=faults)
        for handed in self._handed:
            twin.step(handed=handed)
        return twin

    def vacate(self, station):
        """Let all units at a station disappear."""
        bench = self._benches[station]
        for unit in bench.present():
            bench.let_go(unit)

    def clone(self):
        """Return an independent copy."""
        twin = Machine(self._book, queue=self._queue, faults=self._faults)
        twins = {}
        for stream, units in self._units.items():
            twin._polices[stream] = self._polices[stream].clone()
            # Nothing happens to a unit that has arrived, so copies share it.
            twin._units[stream] = [unit.clone() if unit.arrival is None else unit for unit in units]
            for unit in twin._units[stream]:
                twins[(stream, unit.serial)] = unit
        for station, bench in self._benches.items():
            twin._benches[station] = bench.clone(twins)
        for tick, units in self._coming.items():
            twin._coming[tick] = [twins[(unit.owner, unit.serial)] for unit in units]
        twin._done = self._done
        # What was handed in stays as it was, so copies share it.
        twin._handed = list(self._handed)
        twin._late = list(self._late)
        twin._full = self._full
        return twin

    def _take_over(self, book):
        """Make a copy of a book the machine's one; new streams had no units so far."""
        self._book = book.clone()
        self._supplies = {station: book.supply_of(station) for station in book.network.names()}
        self._ranks = ranks(book.names())
        for stream in book.names():
            if stream not in self._polices:
                self._polices[stream] = idle_police(book.curve_of(stream), self._queue, self._done)
                self._units[stream] = []

    def _in_sequence(self, units):
        """Return a list of units by the sequence of their streams, then by number."""
        return sorted(units, key=lambda unit: (self._ranks[unit.owner], unit.serial))

    def _by_due(self, units):
        """Return a list of units by the sequence in which a station serves them."""
        return sorted(units, key=lambda unit: (unit.due(), self._ranks[unit.owner], unit.serial))

    def _enter(self, handed):
        """Hand units in at the polices, and let those that enter set out."""
        tick = self._done
        for stream in self._book.names():
            life = life_at(self._book.lives_of(stream), tick)
            entered, _ = self._polices[stream].step(
                handed.get(stream, 0), leak=self._plan.leak(stream, tick), closed=life is None)
            for _ in range(entered):
                unit = Unit(stream, len(self._units[stream]), way_of(self._book.network, tick, life))
                self._units[stream].append(unit)
                self._send(unit, tick)

    def _send(self, unit, tick):
        """Let a unit come to its next station in a tick."""
        held = self._plan.hold(unit.owner, unit.serial, len(unit.comings))
        unit.come(tick, held)
        self._coming.setdefault(unit.releases[-1], []).append(unit)

    def _release(self):
        """Release the units whose tick it is; note which station is full first."""
        for unit in self._in_sequence(self._coming.pop(self._done, [])):
            self._benches[unit.where()].take_in(unit, self._done)
        for station, bench in self._benches.items():
            room = self._book.network.find(station).room
            if self._full is None and len(bench.present()) > room:
                self._full = (self._done, station)

    def _serve(self, station, loose):
        """Serve the units of a station that wait, and then loose ones."""
        tick = self._done
        capacity = self._supplies[station].between(tick, tick + 1)
        capacity = max(0, capacity - self._plan.idle(station, tick))
        bench = self._benches[station]
        waiting = self._by_due(bench.waiting())
        many = min(capacity, len(waiting))
        chosen = waiting[:many]
        if self._plan.is_swapped(station, tick):
            chosen = waiting[len(waiting) - many:]
        bench.serve(self._in_sequence(chosen), tick)
        bench.serve_loose(loose, capacity - many)

    def _leave(self, station):
        """Note the units of a station that are late from the next tick on, and let those leave that may."""
        following = self._done + 1
        for unit in self._benches[station].present():
            if unit.due() <= following:
                self._note_late(unit, station)
                if unit.served_at() is not None:
                    self._benches[station].let_go(unit)
                    self._send_on(unit)

    def _note_late(self, unit, station):
        """Note that a unit is late if it is, for the first time, and is not lost."""
        in_time = unit.served_at() is not None and unit.served_at() < unit.due()
        if not in_time and not unit.was_late and not unit.was_lost:
            unit.was_late = True
            self._late.append((unit.due(), station, unit.owner, unit.serial))

    def _send_on(self, unit):
        """Let a unit that has left a station go on, arrive, or disappear."""
        if unit.was_lost:
            return
        if unit.is_at_last():
            unit.arrival = self._done + 1
        else:
            length = self._book.network.link(unit.where(), unit.following())
            self._send(unit, self._done + 1 + length)


def ranks(names):
    """Return the dict from some names to their positions."""
    return {name: position for position, name in enumerate(names)}


def idle_police(curve, queue, ticks):
    """Return a police of which so many ticks have passed without units."""
    police = Police(curve, queue=queue)
    for _ in range(ticks):
        police.step(0, closed=True)
    return police


def require_handed(value, names):
    """Raise InvalidHanded unless a value is None or a dict from some of these names to counts."""
    if value is None:
        return
    if not isinstance(value, dict):
        raise InvalidHanded("neither None nor a dict")
    for name, units in value.items():
        if name not in names or not is_count(units):
            raise InvalidHanded("not a dict from names to counts")
