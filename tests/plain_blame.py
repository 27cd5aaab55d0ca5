"""What the document says of breaches and chains, plainly: by the whole history of a plain machine."""

from dueways.loads import demand
from plain import first_breach
from plain_machine import PlainMachine


class BlamedMachine(PlainMachine):
    """A plain machine that notes when units came, and when they should have been released."""

    def stay(self, unit, came):
        super().stay(unit, came)
        told = unit["stays"][-1]
        told["came"] = came
        told["planned"] = told["due"] - unit["split"][len(unit["stays"]) - 1]
        told["stream"], told["number"] = unit["stream"], unit["number"]

    def stays(self, station=None):
        """Return all stays of units that were released, of a station."""
        return [stay for unit in self.everyone() for stay in unit["stays"]
                if stay["release"] < self.tick and station in (None, stay["station"])]

    def capacity(self, station, tick):
        return self.book.supply_of(station).at(tick)

    def police(self, stream):
        record, curve = self.records[stream], self.book.curve_of(stream)
        found = first_breach(record, [curve.at(length) for length in range(len(record) + 1)])
        return None if found is None else ("police", stream) + found

    def hold(self, stay):
        if stay["release"] <= max(stay["planned"], stay["came"]):
            return None
        return "hold", stay["stream"], stay["number"], stay["station"], stay["release"]

    def order(self, stay):
        return stay["due"], self.book.names().index(stay["stream"]), stay["number"]

    def station(self, station, tick):
        """Return the breach of a station in a tick, or None."""
        waiting = [stay for stay in self.stays(station)
                   if stay["release"] <= tick and (stay["served"] is None or stay["served"] >= tick)]
        served = [self.order(stay) for stay in waiting if stay["served"] == tick]
        first = sorted(self.order(stay) for stay in waiting)[:self.capacity(station, tick)]
        return None if sorted(served) == first else ("station", station, tick)

    def breaches(self):
        names, stations = self.book.names(), self.book.network.names()
        polices = [self.police(stream) for stream in names]
        holds = [(stay["release"], names.index(stay["stream"]), stay["number"], stations.index(stay["station"]),
                  self.hold(stay)) for stay in self.stays() if self.hold(stay)]
        ticks = [self.station(station, tick) for tick in range(self.tick) for station in stations]
        return ([one for one in polices if one] + [one[-1] for one in sorted(holds)] + [one for one in ticks if one])

    def find(self, station, stream, number):
        return [stay for stay in self.units[stream][number]["stays"] if stay["station"] == station][0]

    def behind(self, stay):
        """Return the next element for a unit that was released later than planned."""
        if stay["came"] > stay["planned"]:
            path = self.units[stay["stream"]][stay["number"]]["path"]
            return path[path.index(stay["station"]) - 1], stay["stream"], stay["number"]
        return self.hold(stay)

    def chain(self, station, stream, number):
        found, element = [], (station, stream, number)
        while True:
            found.append(element)
            element, is_link = self.next_element(*element)
            if not is_link:
                return found + [element]

    def next_element(self, station, stream, number):
        """Return the next element, and whether it is a link."""
        stay = self.find(station, stream, number)
        due = stay["due"]
        if stay["release"] > stay["planned"]:
            return self.behind(stay), stay["came"] > stay["planned"]
        for tick in range(stay["release"], due):
            if self.station(station, tick):
                return self.station(station, tick), False
        start = due
        while start > 0:
            served = [one for one in self.stays(station) if one["served"] == start - 1]
            if len(served) != self.capacity(station, start - 1) or any(one["due"] > due for one in served):
                break
            start -= 1
        pressing = [one for one in self.stays(station) if one["due"] <= due]
        for one in pressing:
            if one["release"] < start and (one["served"] is None or one["served"] >= start):
                return self.station(station, start - 1), False
        crowd = [one for one in pressing if start <= one["release"] < due]
        assert len(crowd) > sum(self.capacity(station, tick) for tick in range(start, due))
        loads = dict(self.book.loads_of(station))
        for name in self.book.names():
            units = [one for one in crowd if one["stream"] == name]
            if units and len(units) > demand(loads[name], start, due):
                late = sorted((one["release"], one["number"]) for one in units if one["release"] > one["planned"])
                if late:
                    first = self.find(station, name, late[0][1])
                    return self.behind(first), first["came"] > first["planned"]
                return self.police(name), False
        return ("book", station, start, due), False
