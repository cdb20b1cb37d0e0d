"""Alikes: whether two policies can be told apart by deeds that are done under both."""

from stillmeant.errors import TooMany, WrongShape
from stillmeant.moments import Moment
from stillmeant.nets import Net


class Pairs:
    """The pairs of moments, one of each policy, to which lists of deeds lead; the nearest ones come first."""

    def __init__(self, one, other):
        self.found = []
        self._origins = []
        self._seen = {}
        self.note(Moment(one.shape), Moment(other.shape), None)

    def note(self, mine, theirs, origin):
        """Note a pair if it is new; its origin is the pair (index of the pair ahead of it, deed), or None."""
        key = (mine.key, theirs.key)
        if key in self._seen:
            return
        if len(self.found) == Net.MOST:
            raise TooMany(Net.MOST)
        self._seen[key] = True
        self.found.append((mine, theirs))
        self._origins.append(origin)

    def deeds_to(self, at):
        """A shortest list of deeds that leads to a pair."""
        deeds = []
        origin = self._origins[at]
        while origin is not None:
            ahead, deed = origin
            deeds.append(deed)
            origin = self._origins[ahead]
        return deeds[::-1]


def parting(one, other):
    """A shortest list of deeds behind which two policies part, or None if they are alike."""
    if one.shape.branches != other.shape.branches or one.shape.places != other.shape.places:
        raise WrongShape()
    pairs = Pairs(one, other)
    at = 0
    while at < len(pairs.found):
        mine, theirs = pairs.found[at]
        deeds = _possible_deeds(one, mine)
        if deeds != _possible_deeds(other, theirs) or _shown(mine) != _shown(theirs):
            return pairs.deeds_to(at)
        for deed in deeds:
            pairs.note(mine.after(deed), theirs.after(deed), (at, deed))
        at += 1
    return None


def is_alike(one, other):
    """Whether two policies part behind no list of deeds."""
    return parting(one, other) is None


def _possible_deeds(policy, moment):
    """The ascending list of the deeds of the possible lines."""
    lines = policy.lines()
    return sorted({lines[at][0] for at in policy.possible(moment)})


def _shown(moment):
    """For each branch the contents, the meaning and what is told."""
    branches = moment.shape.branches
    return [(moment.contents(branch), moment.meaning(branch), moment.told(branch)) for branch in branches]
