"""An archive that keeps its commands alone, and plays everything anew from them, by the words of the document."""

import re

from plain_stores import PlainStore
from samples import same

# b and s are branches, n is the name of a change, p a place and w a word.
FORMS = {"change": "n", "make": "bnp", "restore": "bnp", "drop": "bnp", "pick": "bsnpp", "mean": "bnw",
         "merge": "bs", "squash": "bs", "pass": "b", "hear": "bs"}
SHARED = ("merge", "squash", "pass", "hear")


def is_plain_name(value):
    return isinstance(value, str) and re.fullmatch("[a-z]{1,8}", value) is not None


def is_plain_command(shape, value):
    """Whether any value is a command of the document's list."""
    if type(value) is not tuple or not value or not isinstance(value[0], str) or value[0] not in FORMS:
        return False
    form = FORMS[value[0]]
    if len(value) != len(form) + 1:
        return False
    right = {"b": lambda item: isinstance(item, str) and item in shape.branches,
             "s": lambda item: isinstance(item, str) and item in shape.branches and item != value[1],
             "n": is_plain_name,
             "p": lambda item: type(item) is int and 0 <= item < shape.places,
             "w": lambda item: isinstance(item, str) and item in ("in", "out")}
    return all(right[kind](item) for kind, item in zip(form, value[1:]))


def name_in(command):
    """The name of the change in a command, or None."""
    form = FORMS[command[0]]
    return command[1 + form.index("n")] if "n" in form else None


class PlainArchive:
    def __init__(self, shape):
        self.shape = shape
        self.steps = [[]]
        self.undone = []

    def twin(self):
        twin = PlainArchive(self.shape)
        twin.steps = list(self.steps)
        twin.undone = list(self.undone)
        return twin

    @property
    def commands(self):
        return self.steps[-1]

    def names(self):
        return names_in(self.commands)

    def store(self, name):
        return plain_store(self.shape, self.commands, name)

    def error(self, *commands):
        """The first error of a run, as a pair of its name and its value, or None."""
        for at, command in enumerate(commands):
            if not is_plain_command(self.shape, command):
                return ("InvalidCommand", at)
        standing = list(self.commands)
        for command in commands:
            found = self.error_behind(standing, command)
            if found is not None:
                return found
            standing.append(command)
        return None

    def error_behind(self, standing, command):
        names = names_in(standing)
        name = name_in(command)
        found = []
        if command[0] == "change":
            found = [("DuplicateName", name)] * (name in names) + [("TooMany", 6)] * (len(names) >= 6)
        elif name is not None and name not in names:
            found = [("UnknownChange", name)]
        else:
            deed = tuple(item for at, item in enumerate(command)
                         if name is None or at != 1 + FORMS[command[0]].index("n"))
            word = plain_store(self.shape, standing, name).refusal(deed)
            found = [("Refused", word)] * (word != "")
        found += [("TooMany", 200)] * (len(standing) >= 200)
        return found[0] if found else None

    def run(self, *commands):
        """Does commands that are right."""
        self.steps.append(self.commands + list(commands))
        self.undone = []

    def undo(self):
        self.undone.append(self.steps.pop())

    def redo(self):
        self.steps.append(self.undone.pop())

    def history(self):
        return (len(self.steps) - 1, len(self.undone))


def names_in(commands):
    return [command[1] for command in commands if command[0] == "change"]


def deeds_for(commands, name):
    """The deeds of a change behind some commands; the name is None for a change that comes next."""
    deeds = []
    for command in commands:
        word = command[0]
        if word in SHARED:
            deeds.append(command)
        elif word != "change" and name_in(command) == name:
            deeds.append(tuple(item for at, item in enumerate(command) if at != 1 + FORMS[word].index("n")))
        elif word in ("make", "restore", "drop", "pick"):
            deeds.append(("pass", command[1]))
    return deeds


def plain_store(shape, commands, name):
    plain = PlainStore(shape)
    for deed in deeds_for(commands, name):
        plain.do(deed)
    return plain


def check_archive(case, archive, plain, stores=False):
    """Checks everything that an archive tells."""
    names = plain.names()
    case.assertEqual(archive.shape, plain.shape)
    case.assertIs(archive.busy, False)
    case.assertTrue(same(archive.history(), plain.history()))
    case.assertTrue(same(archive.commands(), plain.commands))
    case.assertTrue(same(archive.changes(), names))
    case.assertEqual((len(archive), repr(archive)), (len(names), f"Archive({len(names)} changes)"))
    bad = []
    for name in names:
        case.assertIs(name in archive, True)
        store = plain.store(name)
        for branch in plain.shape.branches:
            case.assertEqual(archive.told(name, branch), store.told(branch))
            case.assertTrue(same(archive.contents(name, branch), store.contents(branch)))
            case.assertEqual(archive.meaning(name, branch), store.meaning(branch))
            bad += [(name, branch)] if store.told(branch) != "right" else []
        if stores:
            check_log(case, archive.store(name), store)
    case.assertTrue(same(archive.bad(), sorted(bad)))


def check_log(case, store, plain):
    """Checks the deeds, versions and words of a store."""
    case.assertTrue(same(store.log(), plain.log))
    case.assertTrue(same(store.versions(), plain.versions()))
    case.assertTrue(same(store.words(), plain.words()))
    for branch in plain.shape.branches:
        case.assertTrue(same(store.past(branch), plain.past(branch)))
        case.assertTrue(same(store.heard(branch), plain.words_heard(branch)))


NAMES = ["lamp", "a", "zzzzzzzz", "undo", "told", "main", "change", "desk"]


def drawn_command(draw, shape, names=None):
    """A command of a shape, with a change that need not exist."""
    word = draw.one_of(["change", "make", "make", "restore", "drop", "pick", "pick", "mean", "merge", "merge", "squash",
                        "pass", "hear"])
    items = [word]
    for kind in FORMS[word]:
        branches = [branch for branch in shape.branches if branch not in items]
        items.append(draw.one_of({"b": branches, "s": branches, "n": names or NAMES,
                                  "p": list(range(shape.places)), "w": ["in", "out"]}[kind]))
    return tuple(items)


def right_command(draw, plain):
    """A command that is not refused."""
    while True:
        # New names come seldom, so that the changes get something to do.
        command = drawn_command(draw, plain.shape, plain.names() if plain.names() and draw.below(4) else None)
        if command[0] in ("change", "merge", "hear", "pass") and draw.below(3):
            continue
        if plain.error(command) is None:
            return command
