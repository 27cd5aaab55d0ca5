"""Consoles: a machine that is told what to do by commands, which can be undone."""

from dueways.admission import admit
from dueways.blame import chain
from dueways.changes import change_capacity, end_stream, reroute
from dueways.commands import read_command
from dueways.errors import (DueError, HasReserves, InvalidBook, InvalidCommand, InvalidTick, NameTaken, NotGood,
                            NotPlain, Overfull, Refused, RunFailed, TooLong, TooMany, UnknownStation, UnknownStream)
from dueways.machine import Machine
from dueways.reserves import fail
from dueways.texts import book_text


def told_admit(machine, handed, words):
    """Admit a stream from the present tick on; return its times."""
    name, curve, within, path = words
    book = machine.book()
    split = admit(book, name, curve, path, within, begin=machine.tick)
    machine.use(book)
    return joined(split)


def told_end(machine, handed, words):
    """End a stream at the present tick."""
    book = machine.book()
    end_stream(book, words[0], machine.tick)
    machine.use(book)
    return "ok"


def told_reroute(machine, handed, words):
    """Reroute a stream at the present tick; return the begin of the new life and its times, or None."""
    name, within, until, path = words
    book = machine.book()
    told = reroute(book, name, path, within, at=machine.tick, until=until)
    if told is None:
        return None
    machine.use(book)
    return joined([told[0]] + told[1])


def told_slow(machine, handed, words):
    """Change the capacity of a station from a tick on that has not passed."""
    station, tick, capacity = words
    book = machine.book()
    book.network.find(station)
    book.require_no_reserves()
    if tick < machine.tick:
        raise InvalidTick(tick)
    change_capacity(book, station, tick, capacity)
    machine.use(book)
    return "ok"


def told_hand(machine, handed, words):
    """Note the units that are handed in in the next tick."""
    name, many = words
    machine.book().require_stream(name)
    handed[name] = handed.get(name, 0) + many
    return "ok"


def told_step(machine, handed, words):
    """Do so many ticks, in the first one with the units that are to be handed in; return the present tick."""
    for _ in range(words[0]):
        machine.step(handed=handed)
        handed.clear()
    return str(machine.tick)


def told_fail(machine, handed, words):
    """Let a station fail; return how many units are lost."""
    return str(len(fail(machine, words[0])))


def told_tick(machine, words):
    """Return the present tick."""
    return str(machine.tick)


def told_entered(machine, words):
    """Return how many units of a stream have entered."""
    return str(sum(machine.entered(words[0])))


def told_arrived(machine, words):
    """Return how many units of a stream have arrived."""
    return str(len([tick for tick in machine.arrivals(words[0]) if tick is not None]))


def told_times(machine, words):
    """Return the times of the last life of a stream."""
    _, _, _, split = machine.book().lives_of(words[0])[-1]
    return joined(split)


def told_late(machine, words):
    """Return how many times a unit was late at a station."""
    return str(len(machine.late()))


def told_blame(machine, words):
    """Return the parts of what ends the chain of the first late unit, nothing if there is none."""
    late = machine.late()
    if len(late) == 0:
        return ""
    _, station, stream, number = late[0]
    return joined(chain(machine, station, stream, number)[-1])


def told_text(machine, words):
    """Return the text of the book."""
    return book_text(machine.book())


ACTIONS = {
    "admit": told_admit, "end": told_end, "reroute": told_reroute, "slow": told_slow, "hand": told_hand,
    "step": told_step, "fail": told_fail,
}
QUERIES = {
    "tick": told_tick, "entered": told_entered, "arrived": told_arrived, "times": told_times, "late": told_late,
    "blame": told_blame, "text": told_text,
}


class Console:
    """A machine, the units that are handed in in its next tick, and what it was before each command.

    Actions work on copies, so a machine that is kept never changes.
    """

    def __init__(self, book):
        if not book.is_safe():
            raise InvalidBook("the book is not safe")
        self._machine = Machine(book)
        self._handed = {}
        # The tuples (command, machine, handed) of the commands that can be undone, as it was before them.
        self._past = []

    def execute(self, command):
        """Execute a command and return its result."""
        word, meanings = read_command(command)
        if word == "undo":
            return self._undo()
        if word in QUERIES:
            query = QUERIES[word]
            return query(self._machine, meanings)
        action = ACTIONS[word]
        machine = self._machine.clone()
        handed = dict(self._handed)
        result = action(machine, handed, meanings)
        if result is None:
            return "none"
        self._past.append((command, self._machine, self._handed))
        self._machine = machine
        self._handed = handed
        return result

    def run(self, commands):
        """Execute a list of commands, all or none, and return the list of the results."""
        if not isinstance(commands, list):
            raise InvalidCommand(commands)
        machine, handed, past = self._machine, self._handed, list(self._past)
        results = []
        for position, command in enumerate(list(commands)):
            try:
                results.append(self.execute(command))
            except (DueError, HasReserves, NameTaken, NotGood, NotPlain, Overfull, Refused, TooLong, TooMany,
                    UnknownStation, UnknownStream) as error:
                self._machine, self._handed, self._past = machine, handed, past
                raise RunFailed(position, results) from error
        return results

    def machine(self):
        """Return a copy of the machine."""
        return self._machine.clone()

    def history(self):
        """Return the list of the commands that can be undone, the earliest one first."""
        return [command for command, _, _ in self._past]

    def _undo(self):
        """Undo the last command that can be undone; return how many are left, or that there was none."""
        if len(self._past) == 0:
            return "none"
        _, self._machine, self._handed = self._past.pop()
        return str(len(self._past))


def joined(parts):
    """Return the parts of a result as a string."""
    return " ".join([str(part) for part in parts])
