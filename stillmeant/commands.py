"""Commands: the tuples that an archive does, and what each of them is for one change."""

from stillmeant.deeds import is_deed
from stillmeant.shapes import is_name

# The index of the name of the change in each command that has one; without it, all but the first are deeds.
NAMED = {"change": 1, "make": 2, "restore": 2, "drop": 2, "pick": 3, "mean": 2}


def is_command(shape, value):
    """Whether any value is a command for archives of a shape."""
    if not isinstance(value, tuple) or not value or not isinstance(value[0], str):
        return False
    if value[0] not in NAMED:
        return is_deed(shape, value)
    at = NAMED[value[0]]
    if len(value) <= at or not is_name(value[at]):
        return False
    if value[0] == "change":
        return len(value) == 2
    return is_deed(shape, _nameless(value))


def change_of(command):
    """The name of the change in a command, or None if the command is about all changes."""
    if command[0] not in NAMED:
        return None
    return command[NAMED[command[0]]]


def deed_for(command, name):
    """The deed that a command is for a change, or None if it does nothing; the name is None for one in no command."""
    word = command[0]
    if word == "change":
        return None
    if word not in NAMED:
        return command
    if change_of(command) == name:
        return _nameless(command)
    if word == "mean":
        return None
    return ("pass", command[1])


def _nameless(command):
    """A command without the name of the change."""
    at = NAMED[command[0]]
    return command[:at] + command[at + 1:]
