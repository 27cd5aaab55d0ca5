"""A console plainly: the list of the commands that count, which are done once more from the start for each question."""

import re

from dueways.admission import admit
from dueways.blame import chain
from dueways.changes import change_capacity, end_stream, reroute
from dueways.curves import Curve
from dueways.errors import HasReserves, InvalidCommand, InvalidCurve, InvalidTick
from dueways.machine import Machine
from dueways.reserves import fail
from dueways.texts import book_text

NUMBER = "(0|[1-9][0-9]{0,8})"
NAME = "([a-z]{1,8})"
PATH = "((?: [a-z]{1,8})+)"
FORMS = {word: re.compile(form) for word, form in {
    "admit": f"admit {NAME} ([0-9,]+/[0-9]+/[0-9]+) {NUMBER}{PATH}", "end": f"end {NAME}",
    "reroute": f"reroute {NAME} {NUMBER} {NUMBER}{PATH}", "slow": f"slow {NAME} {NUMBER} {NUMBER}",
    "hand": f"hand {NAME} {NUMBER}", "step": f"step {NUMBER}", "fail": f"fail {NAME}", "undo": "undo", "tick": "tick",
    "entered": f"entered {NAME}", "arrived": f"arrived {NAME}", "times": f"times {NAME}", "late": "late",
    "blame": "blame", "text": "text"}.items()}


def read(command):
    """Return (word, groups) of a command, or raise InvalidCommand."""
    word = command.split(" ")[0] if isinstance(command, str) else None
    found = FORMS[word].fullmatch(command) if word in FORMS else None
    if not found:
        raise InvalidCommand(command)
    if word == "admit":
        values, period, gain = found.group(2).split("/")
        try:
            numbers = [int(value) for value in values.split(",")]
            curve = Curve(numbers, period=int(period), gain=int(gain))
        except (ValueError, InvalidCurve):
            raise InvalidCommand(command) from None
        if str(curve) != found.group(2):
            raise InvalidCommand(command)
    return word, found.groups()


class PlainConsole:
    def __init__(self, book):
        self.book, self.done = book.clone(), []

    def state(self):
        """Return (machine, units to be handed in) after all commands that count."""
        machine, handed = Machine(self.book), {}
        for command in self.done:
            self.apply(machine, handed, *read(command))
        return machine, handed

    def apply(self, machine, handed, word, told):
        """Do what a command says by the functions; return the result."""
        book, tick = machine.book(), machine.tick
        if word == "admit":
            values, period, gain = told[1].split("/")
            curve = Curve([int(value) for value in values.split(",")], period=int(period), gain=int(gain))
            result = admit(book, told[0], curve, told[3].split(), int(told[2]), begin=tick)
        elif word == "end":
            end_stream(book, told[0], tick)
            result = ["ok"]
        elif word == "reroute":
            result = reroute(book, told[0], told[3].split(), int(told[1]), at=tick, until=int(told[2]))
            result = ["none"] if result is None else [result[0], *result[1]]
        elif word == "slow":
            book.network.find(told[0])
            if any(book.reserve_of(name) for name in book.names()):
                raise HasReserves
            if int(told[1]) < tick:
                raise InvalidTick(int(told[1]))
            change_capacity(book, told[0], int(told[1]), int(told[2]))
            result = ["ok"]
        elif word == "hand":
            machine.entered(told[0])
            handed[told[0]] = handed.get(told[0], 0) + int(told[1])
            return "ok"
        elif word == "step":
            for _ in range(int(told[0])):
                machine.step(handed=dict(handed))
                handed.clear()
            return str(machine.tick)
        else:
            return str(len(fail(machine, told[0])))
        machine.use(book)
        return " ".join(map(str, result))

    def ask(self, machine, word, told):
        """Return the result of a query."""
        if word == "blame":
            late = machine.late()
            return " ".join(map(str, chain(machine, *late[0][1:])[-1])) if late else ""
        asks = {"tick": lambda: machine.tick, "entered": lambda: sum(machine.entered(told[0])),
                "arrived": lambda: len([tick for tick in machine.arrivals(told[0]) if tick is not None]),
                "times": lambda: " ".join(map(str, machine.book().lives_of(told[0])[-1][3])),
                "late": lambda: len(machine.late()), "text": lambda: book_text(machine.book())}
        return str(asks[word]())

    def execute(self, command):
        word, told = read(command)
        if word == "undo":
            if not self.done:
                return "none"
            self.done.pop()
            return str(len(self.done))
        machine, handed = self.state()
        if word in ("tick", "entered", "arrived", "times", "late", "blame", "text"):
            return self.ask(machine, word, told)
        result = self.apply(machine, handed, word, told)
        if result != "none":
            self.done.append(command)
        return result
