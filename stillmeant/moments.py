"""Moments: what matters of a store, and what each deed makes of it."""

from stillmeant.deeds import all_deeds, heard_branch, is_deed, makes_version, said_word
from stillmeant.errors import InvalidDeed, Refused
from stillmeant.webs import Web


class Moment:
    """The shape, both webs, and the places at which the change stood; it never changes."""

    def __init__(self, shape):
        many = len(shape.branches)
        self._shape = shape
        self._versions = Web(many, timed=shape.timed)
        self._words = Web(many)
        self._stood = ((),) * many

    @property
    def shape(self):
        """The shape of the store."""
        return self._shape

    @property
    def key(self):
        """The keys of the web of versions and of the web of words, and where the change stood on each branch."""
        return (self._versions.key, self._words.key, self._stood)

    def contents(self, branch):
        """The places at which the change stands on a branch."""
        label = self._versions.last(self._shape.index(branch))
        if label is None:
            return ()
        return _read_label(label)

    def meaning(self, branch):
        """What people mean on a branch: none, in, out or quarrel."""
        said = [word for _, word in self._words.tops(self._shape.index(branch))]
        if not said:
            return "none"
        if "in" in said and "out" in said:
            return "quarrel"
        return said[0]

    def told(self, branch):
        """What is told of a branch."""
        many = len(self.contents(branch))
        meaning = self.meaning(branch)
        if many == 2:
            return "twice"
        if meaning == "in" and many == 0:
            return "gone"
        if meaning in ("out", "none") and many > 0:
            return "back"
        if meaning == "quarrel":
            return "quarrel"
        return "right"

    def stood(self, branch):
        """The places at which the change stood in some version of the past of a branch."""
        return self._stood[self._shape.index(branch)]

    def holds(self, branch, other):
        """Whether the first branch holds the other one."""
        return self._versions.holds(self._shape.index(branch), self._shape.index(other))

    def bases_of(self, branch, other):
        """The list of the contents of the common tops, by their rows."""
        return _read_tops(self._versions.common(self._shape.index(branch), self._shape.index(other)))

    def refusal(self, deed):
        """The word with which a deed is refused, or the empty string."""
        if not is_deed(self._shape, deed):
            raise InvalidDeed()
        return self._refused(deed)

    def after(self, deed):
        """The moment behind a deed."""
        word = self.refusal(deed)
        if word:
            raise Refused(word)
        contents = self._contents_behind(deed)
        made = Moment(self._shape)
        made._versions = self._versions_behind(deed, contents)
        made._words = self._words_behind(deed, contents)
        made._stood = self._stood_behind(deed, contents)
        return made

    def deeds(self):
        """The list of the deeds that are not refused, in the order of all deeds."""
        return [deed for deed in all_deeds(self._shape) if self._refused(deed) == ""]

    def _refused(self, deed):
        word = deed[0]
        if word in ("merge", "squash"):
            return self._refused_merge(deed[1], deed[2])
        if word == "pick":
            return self._refused_pick(deed)
        if word in ("make", "restore", "drop"):
            return self._refused_change(word, deed[1], deed[2])
        return ""

    def _refused_merge(self, branch, other):
        if self.holds(branch, other):
            return "held"
        if self._shape.bases == "refuse" and len(self.bases_of(branch, other)) > 1:
            return "crossed"
        return ""

    def _refused_pick(self, deed):
        _, branch, other, source, target = deed
        if source not in self.contents(other):
            return "missing"
        if target in self.contents(branch):
            return "there"
        return ""

    def _refused_change(self, word, branch, place):
        stands = place in self.contents(branch)
        if word == "drop":
            return "" if stands else "missing"
        if stands:
            return "there"
        stood = place in self.stood(branch)
        if word == "make" and stood:
            return "known"
        if word == "restore" and not stood:
            return "new"
        return ""

    def _contents_behind(self, deed):
        """The contents of the branch of a deed behind it."""
        word = deed[0]
        branch = deed[1]
        ours = self.contents(branch)
        if word in ("make", "restore", "pick"):
            return _ascending(ours + (deed[-1],))
        if word == "drop":
            return tuple([place for place in ours if place != deed[2]])
        if word in ("merge", "squash"):
            return self._shape.merged(self._base(branch, deed[2]), ours, self.contents(deed[2]))
        return ours

    def _base(self, branch, other):
        """The contents of the base of a merge that is not refused."""
        word = self._shape.bases
        bases = self._aged(branch, other) if self._shape.timed else self.bases_of(branch, other)
        if word == "eldest":
            return bases[0]
        if word == "newest":
            return bases[-1]
        if word == "every":
            return tuple([place for place in bases[0] if all([place in contents for contents in bases])])
        # With `refuse` there is one base only.
        return _ascending([place for contents in bases for place in contents])

    def _aged(self, branch, other):
        """The contents of the common tops, in the order in which they were made."""
        return _read_tops(self._versions.aged(self._shape.index(branch), self._shape.index(other)))

    def _versions_behind(self, deed, contents):
        web = self._versions
        row = self._shape.index(deed[1])
        if deed[0] == "merge":
            web = web.joined(row, self._shape.index(deed[2]))
        if makes_version(deed):
            web = web.grown(row, "".join([str(place) for place in contents]))
        return web

    def _words_behind(self, deed, contents):
        web = self._words
        row = self._shape.index(deed[1])
        other = heard_branch(deed)
        if other is not None:
            web = web.joined(row, self._shape.index(other))
        word = said_word(deed, contents)
        if word is not None:
            web = web.grown(row, word)
        return web

    def _stood_behind(self, deed, contents):
        row = self._shape.index(deed[1])
        places = self._stood[row] + contents
        if deed[0] == "merge":
            places = places + self.stood(deed[2])
        return self._stood[:row] + (_ascending(places),) + self._stood[row + 1:]

    def __eq__(self, other):
        return isinstance(other, Moment) and self._shape == other._shape and self.key == other.key

    def __repr__(self):
        return f"Moment({', '.join(self._shape.branches)})"


def _ascending(places):
    """The contents with these places, each of them once."""
    return tuple(sorted(set(places)))


def _read_label(label):
    """The contents that a label of a version stands for."""
    return tuple([int(digit) for digit in label])


def _read_tops(tops):
    """The list of the contents of some tops, with the empty contents if there are none."""
    if not tops:
        return [()]
    return [_read_label(label) for _, label in tops]
