"""Commands of a console: which words they have."""

from dueways.checks import is_name
from dueways.errors import InvalidCommand
from dueways.words import read_curve, read_integer

# For each command what its further words are; "names" are one or more at the end.
FORMS = {
    "admit": ("name", "curve", "integer", "names"),
    "end": ("name",),
    "reroute": ("name", "integer", "integer", "names"),
    "slow": ("name", "integer", "integer"),
    "hand": ("name", "integer"),
    "step": ("integer",),
    "fail": ("name",),
    "undo": (),
    "tick": (),
    "entered": ("name",),
    "arrived": ("name",),
    "times": ("name",),
    "late": (),
    "blame": (),
    "text": (),
}


def read_command(command):
    """Return the tuple (first word, list of what the further words mean) of a command, or raise InvalidCommand."""
    if not isinstance(command, str):
        raise InvalidCommand(command)
    words = command.split(" ")
    meanings = read_words(FORMS[words[0]], words[1:]) if words[0] in FORMS else None
    if meanings is None:
        raise InvalidCommand(command)
    return words[0], meanings


def read_words(form, words):
    """Return the list of what the further words of a command mean, or None if they are not of this form."""
    if form[-1:] == ("names",):
        before = len(form) - 1
        if len(words) <= before or not all([is_name(word) for word in words[before:]]):
            return None
        meanings = read_words(form[:before], words[:before])
        return None if meanings is None else meanings + [words[before:]]
    if len(words) != len(form):
        return None
    meanings = [read_word(kind, word) for kind, word in zip(form, words)]
    if any([meaning is None for meaning in meanings]):
        return None
    return meanings


def read_word(kind, word):
    """Return what a word of this kind means, or None."""
    if kind == "name":
        return word if is_name(word) else None
    if kind == "curve":
        return read_curve(word)
    return read_integer(word)
