"""Archives: many changes on the same branches, each with a store of its own."""

from stillmeant.commands import change_of, deed_for, is_command
from stillmeant.errors import DuplicateName, InvalidCommand, NothingLeft, Refused, TooMany, UnknownChange
from stillmeant.stores import Store


class Ledger:
    """The commands that stand, and what they made of each change."""

    def __init__(self, shape):
        self._shape = shape
        self.done = []
        self.stores = {}
        # The store of a change with which nothing was done so far: new changes begin with it.
        self.bare = Store(shape)

    def twin(self):
        """An independent ledger with the same commands."""
        other = Ledger(self._shape)
        other.done = list(self.done)
        other.stores = {name: self.stores[name].twin() for name in self.stores}
        other.bare = self.bare.twin()
        return other

    def refusal(self, command):
        """The word with which a command is refused, or the empty string."""
        name = change_of(command)
        # All changes have the same versions, so a merge is refused for all of them or for none.
        store = self.bare if name is None else self.stores[name]
        return store.moment.refusal(deed_for(command, name))

    def do(self, command):
        """Do a command that is not refused."""
        for name in self.stores:
            _do_deed(self.stores[name], deed_for(command, name))
        _do_deed(self.bare, deed_for(command, None))
        if command[0] == "change":
            self.stores[command[1]] = self.bare.twin()
        self.done.append(command)


class Archive:
    """Changes and the commands that stand; commands are done, undone and redone step by step."""

    CHANGES = 6
    MOST = 200

    def __init__(self, shape):
        self._shape = shape
        # One ledger behind each step; a ledger that stands here is never changed, so archives may share it.
        self._ledgers = [Ledger(shape)]
        self._undone = []
        self._busy = False

    @property
    def shape(self):
        """The shape of the archive."""
        return self._shape

    @property
    def busy(self):
        """Whether commands are being done."""
        return self._busy

    def run(self, *commands):
        """Do commands as one step: all of them or none."""
        for at, command in enumerate(commands):
            if not is_command(self._shape, command):
                raise InvalidCommand(at)
        self._busy = True
        try:
            ledger = self._now().twin()
            for command in commands:
                _check(ledger, command)
                ledger.do(command)
        finally:
            self._busy = False
        self._ledgers.append(ledger)
        self._undone = []

    def do(self, command):
        """Do one command as one step."""
        self.run(command)

    def undo(self):
        """Take the last step back."""
        if len(self._ledgers) == 1:
            raise NothingLeft()
        self._undone.append(self._ledgers.pop())

    def redo(self):
        """Do the step again that was taken back last."""
        if not self._undone:
            raise NothingLeft()
        self._ledgers.append(self._undone.pop())

    def history(self):
        """The pair of the numbers of steps that can be undone and redone."""
        return (len(self._ledgers) - 1, len(self._undone))

    def changes(self):
        """The list of the names of the changes, in the order of their commands."""
        return list(self._now().stores)

    def store(self, name):
        """An independent store with the deeds of a change."""
        return self._store_of(name).twin()

    def told(self, name, branch):
        """What is told of a branch for a change."""
        return self._store_of(name).told(branch)

    def contents(self, name, branch):
        """The places at which a change stands on a branch."""
        return self._store_of(name).contents(branch)

    def meaning(self, name, branch):
        """What people mean a change to be on a branch."""
        return self._store_of(name).meaning(branch)

    def commands(self):
        """The list of the commands that stand."""
        return list(self._now().done)

    def bad(self):
        """The ascending list of the pairs (name, branch) of which something else than `right` is told."""
        pairs = [(name, branch) for name in self.changes() for branch in self._shape.branches]
        return sorted([(name, branch) for name, branch in pairs if self.told(name, branch) != "right"])

    def twin(self):
        """An independent archive with the same commands and steps."""
        other = Archive(self._shape)
        other._ledgers = list(self._ledgers)
        other._undone = list(self._undone)
        return other

    def settled(self):
        """An independent archive with the same commands, but without steps."""
        other = Archive(self._shape)
        other._ledgers = self._ledgers[-1:]
        return other

    def _now(self):
        return self._ledgers[-1]

    def _store_of(self, name):
        if name not in self:
            raise UnknownChange(name)
        return self._now().stores[name]

    def __contains__(self, name):
        return name in list(self._now().stores)

    def __eq__(self, other):
        return isinstance(other, Archive) and self._shape == other._shape and self.commands() == other.commands()

    def __len__(self):
        return len(self._now().stores)

    def __repr__(self):
        return f"Archive({len(self._now().stores)} changes)"


def _check(ledger, command):
    """Raise the error with which a command is refused now."""
    name = change_of(command)
    if command[0] == "change":
        if name in ledger.stores:
            raise DuplicateName(name)
        if len(ledger.stores) == Archive.CHANGES:
            raise TooMany(Archive.CHANGES)
    else:
        if name is not None and name not in ledger.stores:
            raise UnknownChange(name)
        word = ledger.refusal(command)
        if word:
            raise Refused(word)
    if len(ledger.done) == Archive.MOST:
        raise TooMany(Archive.MOST)


def _do_deed(store, deed):
    if deed is not None:
        store.do(deed)
