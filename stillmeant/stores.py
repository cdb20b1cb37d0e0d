"""Stores: the deeds that stand, and what is true behind them."""

from stillmeant.deeds import heard_branch, is_deed, makes_version, said_word
from stillmeant.errors import InvalidDeed, NothingLeft
from stillmeant.moments import Moment


class Store:
    """The deeds that stand, and the moment behind each of them."""

    def __init__(self, shape):
        self._shape = shape
        self._deeds = []
        self._moments = [Moment(shape)]

    @property
    def shape(self):
        """The shape of the store."""
        return self._shape

    @property
    def moment(self):
        """The moment of now."""
        return self._moments[-1]

    def do(self, *deeds):
        """Do all deeds or none."""
        for deed in deeds:
            if not is_deed(self._shape, deed):
                raise InvalidDeed()
        behind = [self.moment]
        for deed in deeds:
            behind.append(behind[-1].after(deed))
        self._deeds.extend(deeds)
        self._moments.extend(behind[1:])

    def undo(self):
        """Take the last deed back and return it."""
        if not self._deeds:
            raise NothingLeft()
        self._moments.pop()
        return self._deeds.pop()

    def log(self):
        """The list of the deeds that stand."""
        return list(self._deeds)

    def versions(self):
        """The list of the versions as triples (branch, contents, parents), in the order in which they were made."""
        made = []
        heads = {}
        for deed, moment in self._steps():
            if makes_version(deed):
                branch = deed[1]
                merged = deed[1:3] if deed[0] == "merge" else deed[1:2]
                parents = sorted([heads[name] for name in merged if name in heads])
                heads[branch] = len(made)
                made.append((branch, moment.contents(branch), tuple(parents)))
        return made

    def past(self, branch):
        """The ascending list of the numbers of the versions in the past of a branch."""
        self._shape.index(branch)
        made = self.versions()
        found = set()
        # Parents have lower numbers, so each version is found ahead of its own parents.
        for number in reversed(range(len(made))):
            row, _, parents = made[number]
            if row == branch:
                found.add(number)
            if number in found:
                for parent in parents:
                    found.add(parent)
        return sorted(found)

    def words(self):
        """The list of the words as pairs (branch, word), in the order in which they were said."""
        said = [(deed[1], said_word(deed, moment.contents(deed[1]))) for deed, moment in self._steps()]
        return [(branch, word) for branch, word in said if word is not None]

    def heard(self, branch):
        """The ascending list of the numbers of the words that a branch knows."""
        self._shape.index(branch)
        known = {name: [] for name in self._shape.branches}
        many = 0
        for deed, moment in self._steps():
            mine = known[deed[1]]
            other = heard_branch(deed)
            if other is not None:
                mine = sorted(set(mine + known[other]))
            if said_word(deed, moment.contents(deed[1])) is not None:
                mine = mine + [many]
                many += 1
            known[deed[1]] = mine
        return known[branch]

    def told(self, branch):
        """What is told of a branch."""
        return self.moment.told(branch)

    def contents(self, branch):
        """The places at which the change stands on a branch."""
        return self.moment.contents(branch)

    def meaning(self, branch):
        """What people mean on a branch."""
        return self.moment.meaning(branch)

    def walk(self):
        """Yield the moments, from the first one on, one behind each deed."""
        yield from self._moments

    def twin(self):
        """An independent store with the same deeds."""
        other = Store(self._shape)
        other._deeds = list(self._deeds)
        other._moments = list(self._moments)
        return other

    def _steps(self):
        """The list of the deeds that stand, each with the moment behind it."""
        return list(zip(self._deeds, self._moments[1:]))

    def __eq__(self, other):
        return isinstance(other, Store) and self._shape == other._shape and self._deeds == other._deeds

    def __len__(self):
        return len(self._deeds)

    def __repr__(self):
        return f"Store({len(self._deeds)} deeds)"
