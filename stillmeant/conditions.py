"""Conditions: what is true or false for each moment, and the texts in which it is written."""

from stillmeant.errors import InvalidCondition, InvalidName, InvalidNumber
from stillmeant.shapes import is_name

WORDS = ("in", "twice", "gone", "back", "quarrel", "right")


class Condition:
    """A text of up to eight parts that is true or false for each moment; it never changes."""

    MOST = 8

    def __init__(self, text):
        tree = _read_tree(text, Condition.MOST) if isinstance(text, str) else None
        if tree is None or _count_parts(tree) > Condition.MOST:
            raise InvalidCondition(text)
        self._text = text
        self._tree = tree

    @property
    def text(self):
        """The text of the condition."""
        return self._text

    @property
    def tree(self):
        """The condition as nested tuples."""
        return self._tree

    @property
    def parts(self):
        """The number of parts."""
        return _count_parts(self._tree)

    @staticmethod
    def telling(branch, word):
        """The condition that this is told of a branch, or that the change is in."""
        if not is_name(branch):
            raise InvalidName(branch)
        if word not in WORDS:
            raise InvalidName(word)
        return Condition(f"{branch} {word}")

    @staticmethod
    def holding(branch, other):
        """The condition that the first branch holds the other one."""
        if not is_name(branch):
            raise InvalidName(branch)
        if not is_name(other) or other == branch:
            raise InvalidName(other)
        return Condition(f"{branch} holds {other}")

    @classmethod
    def all_of(cls, *conditions):
        """The condition that two or three conditions are all true."""
        return cls(_joined("all", conditions))

    @classmethod
    def any_of(cls, *conditions):
        """The condition that one of two or three conditions is true."""
        return cls(_joined("any", conditions))

    def branch_names(self):
        """The ascending list of the branches in the condition."""
        return sorted(set(_names_within(self._tree)))

    def holds(self, moment):
        """Whether the condition is true in a moment."""
        for name in self.branch_names():
            # The shape raises an error for a branch that it does not have.
            moment.shape.index(name)
        return _is_true(self._tree, moment)

    def __and__(self, other):
        return Condition(_joined("all", (self, other)))

    def __or__(self, other):
        return Condition(_joined("any", (self, other)))

    def __invert__(self):
        return Condition(f"not({self._text})")

    def __eq__(self, other):
        return isinstance(other, Condition) and self._text == other._text

    def __repr__(self):
        return f"Condition({self._text})"


def _joined(word, conditions):
    """The text that joins two or three conditions by a word."""
    if len(conditions) not in (2, 3):
        raise InvalidNumber(len(conditions))
    texts = ", ".join([condition.text for condition in conditions])
    return f"{word}({texts})"


def _read_tree(text, levels):
    """The tree of a text, or None if it is no condition or has more levels than this.

    Each level is a part at least, so the limit refuses nothing that may stand; it ends the reading of deep brackets.
    """
    if levels == 0:
        return None
    word, bracket, inside = text.partition("(")
    if not bracket:
        return _read_leaf(text.split(" "))
    if not inside.endswith(")"):
        return None
    trees = tuple([_read_tree(piece, levels - 1) for piece in _pieces(inside[:-1])])
    if None in trees:
        return None
    if word == "not" and len(trees) == 1:
        return ("not", trees[0])
    if word in ("all", "any") and len(trees) in (2, 3):
        return (word, trees)
    return None


def _read_leaf(words):
    """The tree of the words of a condition without brackets, or None."""
    if words == ["true"]:
        return ("true",)
    if len(words) == 2 and is_name(words[0]) and words[1] in WORDS:
        return ("told", words[0], words[1])
    if len(words) == 3 and words[1] == "holds" and is_name(words[0]) and is_name(words[2]):
        return ("holds", words[0], words[2]) if words[0] != words[2] else None
    return None


def _pieces(text):
    """The pieces of a text between the commas that stand outside of brackets."""
    pieces = []
    start = 0
    depth = 0
    for at, sign in enumerate(text):
        if sign == "(":
            depth += 1
        elif sign == ")":
            depth -= 1
        elif depth == 0 and text[at:at + 2] == ", ":
            pieces.append(text[start:at])
            start = at + 2
    pieces.append(text[start:])
    return pieces


def _within(tree):
    """The trees directly within a tree."""
    if tree[0] == "not":
        return [tree[1]]
    if tree[0] in ("all", "any"):
        return list(tree[1])
    return []


def _count_parts(tree):
    return 1 + sum([_count_parts(inner) for inner in _within(tree)])


def _names_within(tree):
    """The branches in a tree, in the order of the text."""
    if tree[0] == "told":
        return [tree[1]]
    if tree[0] == "holds":
        return [tree[1], tree[2]]
    return [name for inner in _within(tree) for name in _names_within(inner)]


def _is_true(tree, moment):
    word = tree[0]
    if word == "told":
        return _is_told(moment, tree[1], tree[2])
    if word == "holds":
        return moment.holds(tree[1], tree[2])
    truths = [_is_true(inner, moment) for inner in _within(tree)]
    if word == "not":
        return not truths[0]
    if word == "any":
        return any(truths)
    # The tree of `true` has nothing within it, and all of nothing is true.
    return all(truths)


def _is_told(moment, branch, word):
    if word == "in":
        return len(moment.contents(branch)) > 0
    return moment.told(branch) == word
