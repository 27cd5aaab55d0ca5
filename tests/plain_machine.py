"""What the document says of machines, plainly and slowly: each query looks at the whole history of all units."""


class PlainMachine:
    """A machine in which a unit is a dict, and its stays at stations are dicts of what happened when."""

    def __init__(self, book, queue=60, faults=()):
        self.book, self.queue, self.faults = book.clone(), queue, list(faults)
        self.tick = 0
        self.records = {name: [] for name in book.names()}
        self.waiting = {name: 0 for name in book.names()}
        self.sent_back = {name: 0 for name in book.names()}
        self.units = {name: [] for name in book.names()}
        self.loose_waiting = {name: 0 for name in book.network.names()}
        self.loose_served = {name: [] for name in book.network.names()}
        self.all_full = []

    def amount(self, kind, **where):
        """Return how much all faults of a kind at a place make together."""
        found = [fault for fault in self.faults if fault.kind() == kind
                 and all(getattr(fault, name) == worth for name, worth in where.items())]
        return sum(getattr(fault, {"idle": "amount", "leak": "amount", "hold": "ticks"}[kind]) for fault in found)

    def everyone(self):
        return [unit for name in self.book.names() for unit in self.units[name]]

    def life(self, name, tick):
        for begin, end, path, split in self.book.lives_of(name):
            if begin <= tick and (end is None or tick < end):
                return begin, end, path, split
        return None

    def allowed(self, name):
        """Return how many units may enter now such that no window that ends now has too many."""
        record, curve = self.records[name], self.book.curve_of(name)
        return max(0, min(curve.at(length) - sum(record[len(record) - length + 1:])
                          for length in range(1, len(record) + 2)))

    def stay(self, unit, came):
        """Let a unit come to its next station in a tick."""
        index = len(unit["stays"])
        shift, path, split = 0, unit["path"], unit["split"]
        for before in range(index):
            shift += split[before] + self.book.network.link(path[before], path[before + 1])
        planned = unit["entry"] + shift
        held = self.amount("hold", stream=unit["stream"], number=unit["number"], place=index)
        unit["stays"].append({"station": path[index], "release": max(planned, came) + held,
                              "due": planned + split[index], "served": None, "left": None})

    def here(self, station, tick):
        """Return the (unit, stay) of all that have a place at a station in a tick."""
        return [(unit, stay) for unit in self.everyone() for stay in unit["stays"]
                if stay["station"] == station and stay["release"] <= tick and stay["left"] is None
                and not stay.get("vanished")]

    def step(self, handed, loose):
        tick = self.tick
        for name in self.book.names():
            there = self.waiting[name] + handed.get(name, 0)
            life = self.life(name, tick)
            entering = 0
            if life is not None:
                entering = min(there, self.allowed(name) + self.amount("leak", stream=name, tick=tick))
            self.records[name].append(entering)
            self.waiting[name] = min(self.queue, there - entering)
            self.sent_back[name] += there - entering - self.waiting[name]
            for _ in range(entering):
                unit = {"stream": name, "number": len(self.units[name]), "entry": tick, "path": life[2],
                        "split": life[3], "stays": [], "arrival": None, "lost": None}
                self.units[name].append(unit)
                self.stay(unit, tick)
        for station in self.book.network.names():
            if len(self.here(station, tick)) > self.book.network.find(station).room:
                self.all_full.append((tick, station))
            self.serve(station, loose.get(station, 0))
        for station in self.book.network.names():
            self.leave(station)
        self.tick += 1

    def serve(self, station, loose):
        tick = self.tick
        capacity = max(0, self.book.supply_of(station).at(tick) - self.amount("idle", station=station, tick=tick))
        order = self.book.names()
        waiting = [(stay["due"], order.index(unit["stream"]), unit["number"], stay)
                   for unit, stay in self.here(station, tick) if stay["served"] is None]
        waiting.sort(key=lambda one: one[:3])
        many = min(capacity, len(waiting))
        swapped = any(fault.kind() == "swap" and (fault.station, fault.tick) == (station, tick)
                      for fault in self.faults)
        for one in (waiting[::-1] if swapped else waiting)[:many]:
            one[3]["served"] = tick
        there = self.loose_waiting[station] + loose
        self.loose_served[station].append(min(there, capacity - many))
        self.loose_waiting[station] = there - self.loose_served[station][-1]

    def leave(self, station):
        tick = self.tick
        for unit, stay in self.here(station, tick):
            if stay["served"] is not None and stay["due"] <= tick + 1:
                stay["left"] = tick
                if unit["lost"] is not None:
                    continue
                index = len(unit["stays"])
                if index == len(unit["path"]):
                    unit["arrival"] = tick + 1
                else:
                    self.stay(unit, tick + 1 + self.book.network.link(station, unit["path"][index]))

    def use(self, book):
        self.book = book.clone()
        for name in book.names():
            self.records.setdefault(name, [0] * self.tick)
            self.waiting.setdefault(name, 0)
            self.sent_back.setdefault(name, 0)
            self.units.setdefault(name, [])

    def drop(self, name):
        """Lose the units of a stream; return the list of the (number, station)."""
        told = []
        for unit in self.units[name]:
            if unit["arrival"] is None and unit["lost"] is None:
                unit["lost"] = self.tick
                stay = unit["stays"][-1]
                if stay["release"] >= self.tick:
                    stay["vanished"] = True
                told.append((unit["number"], None if stay.get("vanished") else stay["station"]))
        return told

    def late(self):
        """Return the list of the (due, station, stream, number) of all late units."""
        stations, order, found = self.book.network.names(), self.book.names(), []
        for unit in self.everyone():
            for stay in unit["stays"]:
                since = max(stay["due"], stay["release"] + 1)
                in_time = stay["served"] is not None and stay["served"] < stay["due"]
                still = unit["lost"] is None or since <= unit["lost"]
                if not in_time and since <= self.tick and still and not stay.get("vanished"):
                    found.append((stay["due"], stations.index(stay["station"]), order.index(unit["stream"]),
                                  unit["number"], stay["station"], unit["stream"]))
        return [(due, station, stream, number) for due, _, _, number, station, stream in sorted(found)]

    def told(self):
        """Return all that a machine tells."""
        names, stations, order = self.book.names(), self.book.network.names(), self.book.names()

        def listed(what, station):
            found = [(stay[what], order.index(unit["stream"]), unit["number"], unit["stream"])
                     for unit in self.everyone() for stay in unit["stays"]
                     if stay["station"] == station and stay[what] is not None and stay[what] < self.tick
                     and not stay.get("vanished")]
            return [(tick, stream, number) for tick, _, number, stream in sorted(found)]

        def present(station):
            return [(unit["stream"], unit["number"], stay["due"], stay["served"] is not None)
                    for unit, stay in self.here(station, self.tick - 1)]

        return {
            "tick": self.tick,
            "entered": {name: self.records[name] for name in names},
            "waiting": {name: self.waiting[name] for name in names},
            "sent_back": {name: self.sent_back[name] for name in names},
            "arrivals": {name: [unit["arrival"] for unit in self.units[name]] for name in names},
            "lost": {name: [unit["number"] for unit in self.units[name] if unit["lost"] is not None]
                     for name in names},
            "units": {station: present(station) for station in stations},
            "released": {station: listed("release", station) for station in stations},
            "served": {station: listed("served", station) for station in stations},
            "loose": {station: (self.loose_waiting[station], self.loose_served[station]) for station in stations},
            "late": self.late(),
            "full": self.all_full[0] if self.all_full else None,
        }


def told_by(machine):
    """Return all that a machine of the package tells, in the same form."""
    names, stations = machine.book().names(), machine.book().network.names()
    of_streams = {"entered": machine.entered, "waiting": machine.waiting, "sent_back": machine.sent_back,
                  "arrivals": machine.arrivals, "lost": machine.lost}
    of_stations = {"units": machine.units, "released": machine.released, "served": machine.served,
                   "loose": machine.loose}
    found = {"tick": machine.tick, "late": machine.late(), "full": machine.full()}
    found.update({what: {name: ask(name) for name in names} for what, ask in of_streams.items()})
    found.update({what: {station: ask(station) for station in stations} for what, ask in of_stations.items()})
    return found
