"""Shapes of stores: their branches, their places and how they merge."""

from stillmeant.errors import DuplicateName, InvalidBases, InvalidName, InvalidNumber
from stillmeant.errors import InvalidTable, InvalidText, StillError, UnknownBranch
from stillmeant.values import is_number


def is_name(value):
    """Whether any value is a name of a branch or a change."""
    if not isinstance(value, str) or not 1 <= len(value) <= 8:
        return False
    return all(["a" <= letter <= "z" for letter in value])


class Shape:
    """Branches, places, the table of merges and the word for bases; it never changes."""

    PLAIN = "1100"
    BASES = ("newest", "eldest", "any", "every", "refuse")

    def __init__(self, *branches, places=1, table="1100", bases="newest"):
        _check_branches(branches)
        if not is_number(places) or places not in (1, 2):
            raise InvalidNumber(places)
        if not _is_table(table):
            raise InvalidTable(table)
        if bases not in Shape.BASES:
            raise InvalidBases(bases)
        self._branches = branches
        self._places = places
        self._table = table
        self._bases = bases
        self._text = " ".join(["shape", *branches, str(places), table, bases])

    @property
    def branches(self):
        """The tuple of the names of the branches."""
        return self._branches

    @property
    def places(self):
        """The number of places."""
        return self._places

    @property
    def table(self):
        """The four digits that decide merges."""
        return self._table

    @property
    def bases(self):
        """The word for bases."""
        return self._bases

    @property
    def timed(self):
        """Whether the order in which versions were made counts."""
        return self._bases in ("newest", "eldest")

    @property
    def text(self):
        """The text of the shape."""
        return self._text

    def index(self, branch):
        """The index of a branch."""
        if branch not in self._branches:
            raise UnknownBranch(branch)
        return self._branches.index(branch)

    def merged(self, base, ours, theirs):
        """The contents of a merge, place by place."""
        return tuple([place for place in range(self._places) if self._stands(place, base, ours, theirs)])

    def changed(self, *, places=None, table=None, bases=None):
        """The shape with other values for those that are not None."""
        if places is None:
            places = self._places
        if table is None:
            table = self._table
        if bases is None:
            bases = self._bases
        return Shape(*self._branches, places=places, table=table, bases=bases)

    @staticmethod
    def read(text):
        """The shape with this text."""
        words = text.split(" ") if isinstance(text, str) else []
        if len(words) < 4 or words[0] != "shape" or words[-3] not in ("1", "2"):
            raise InvalidText(0)
        branches = words[1:-3]
        places = int(words[-3])
        table = words[-2]
        bases = words[-1]
        try:
            return Shape(*branches, places=places, table=table, bases=bases)
        except StillError:
            raise InvalidText(0) from None

    def _stands(self, place, base, ours, theirs):
        mine = place in ours
        if mine == (place in theirs):
            return mine
        digit = 2 if place in base else 0
        if mine:
            digit += 1
        return self._table[digit] == "1"

    def __eq__(self, other):
        return isinstance(other, Shape) and self._text == other._text

    def __repr__(self):
        return f"Shape({', '.join(self._branches)})"


def _check_branches(branches):
    if len(branches) not in (2, 3):
        raise InvalidNumber(len(branches))
    for branch in branches:
        if not is_name(branch):
            raise InvalidName(branch)
    for at, branch in enumerate(branches):
        if branch in branches[:at]:
            raise DuplicateName(branch)


def _is_table(value):
    """Whether any value is a string of four digits, 0 or 1."""
    return isinstance(value, str) and len(value) == 4 and all([digit in "01" for digit in value])
