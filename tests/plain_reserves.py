"""What the document says of reserves and failures, plainly: loads after each failure, and machines in which one fails."""

from dueways.loads import Load, Visit
from dueways.windows import crowded, overfull
from plain_changes import shifts, total
from plain_machine import PlainMachine


def passes(book, name, station):
    return station in book.lives_of(name)[0][2]


def loads_after(book, failed, tick, station):
    """Return the (name, visits) of a station after the failure of another one."""
    found = []
    for name in book.names():
        _, _, path, split = book.lives_of(name)[0]
        reserve, visits = book.reserve_of(name), []
        if station in path:
            index = path.index(station)
            shift = shifts(book.network, path, split)[index]
            end = None
            if failed in path:
                end = tick - shift if tick > shift else 0
            visits.append(Visit(split[index], shift=shift, begin=0, end=end))
        if failed in path and reserve and failed not in reserve[0] and station in reserve[0]:
            index = reserve[0].index(station)
            shift = shifts(book.network, *reserve)[index]
            visits.append(Visit(reserve[1][index], shift=shift, begin=tick, end=None))
        if visits:
            found.append((name, visits))
    return found


def last_tick(book):
    """Return the tick from which on nothing changes."""
    totals = [total(book.network, *book.lives_of(name)[0][2:]) for name in book.names()]
    totals += [total(book.network, *book.reserve_of(name)) for name in book.names() if book.reserve_of(name)]
    values = [len(book.curve_of(name).first_values()) for name in book.names()]
    return max(totals, default=0) + max(values, default=0) + 24


def danger(book, last=None):
    """Return the danger by looking at each tick up to the last one."""
    stations = book.network.names()
    for failed in stations:
        if not book.network.find(failed).may_fail:
            continue
        for tick in range(1, (last_tick(book) if last is None else last) + 1):
            for station in stations:
                if station == failed:
                    continue
                loads = [Load(book.curve_of(name), visits) for name, visits in loads_after(book, failed, tick, station)]
                window = overfull(book.supply_of(station), loads)
                if window is not None:
                    return failed, tick, "time", station, *window
                crowd = crowded(book.network.find(station).room, loads)
                if crowd is not None:
                    return failed, tick, "room", station, crowd, crowd + 1
    return None


def after(book, failed, tick):
    """Return the parts of the book after a failure: lives, withins, and the changes of the capacities."""
    lives, withins = {}, {}
    for name in book.names():
        begin, end, path, split = book.lives_of(name)[0]
        lives[name], withins[name] = [(begin, end, path, split)], book.within_of(name)
        if failed in path:
            lives[name] = [(0, tick, path, split)]
            reserve = book.reserve_of(name)
            if reserve and failed not in reserve[0]:
                lives[name].append((tick, None, *reserve))
                withins[name] = max(withins[name], total(book.network, *reserve))
    changes = {station: [] for station in book.network.names()}
    if book.network.find(failed).capacity > 0:
        changes[failed] = [(tick, 0)]
    return lives, withins, changes


def parts(book):
    """Return the same parts of a book."""
    return ({name: book.lives_of(name) for name in book.names()}, {name: book.within_of(name) for name in book.names()},
            {station: book.supply_of(station).changes() for station in book.network.names()})


class FailingMachine(PlainMachine):
    """A plain machine in which stations fail."""

    def fail(self, station):
        book, lost = self.book, []
        for name in book.names():
            if passes(book, name, station):
                lost += [(name, number, place) for number, place in self.drop(name)]
        for unit, stay in self.here(station, self.tick - 1):
            stay["gone"] = True
        lives, withins, changes = after(book, station, self.tick)
        twin = book.clone()
        for name in book.names():
            twin.put_stream(name, book.curve_of(name), withins[name], lives[name])
            twin.put_reserve(name, None)
        for name, told in changes.items():
            twin.put_changes(name, told)
        self.use(twin)
        return lost

    def here(self, station, tick):
        return [(unit, stay) for unit, stay in super().here(station, tick) if not stay.get("gone")]
