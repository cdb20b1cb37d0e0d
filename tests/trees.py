"""Trees of conditions: how they are written, read sign by sign, and judged, by the words of the document."""

import re

WORDS = ("in", "twice", "gone", "back", "quarrel", "right")
SIGNS = re.compile(r"[a-z]+|\(|\)|, | ")
NAME = re.compile(r"[a-z]{1,8}\Z")


def leaves(names):
    """All trees without brackets about some branches."""
    return ([("true",)] + [("told", name, word) for name in names for word in WORDS]
            + [("holds", one, other) for one in names for other in names if one != other])


def drawn(draw, names, parts):
    """A tree of at most so many parts."""
    form = draw.below(4) if parts > 1 else 0
    if form == 1:
        return ("not", drawn(draw, names, parts - 1))
    if form > 1 and parts > 2:
        many = 2 + draw.below(2) if parts > 3 else 2
        trees = []
        left = parts - 1
        for behind in range(many - 1, -1, -1):
            trees.append(drawn(draw, names, left - behind))
            left -= count(trees[-1])
        return ("all" if form == 2 else "any", tuple(trees))
    return draw.one_of(leaves(names))


def written(tree):
    """The text of a tree."""
    if tree[0] == "true":
        return "true"
    if tree[0] == "told":
        return tree[1] + " " + tree[2]
    if tree[0] == "holds":
        return tree[1] + " holds " + tree[2]
    inner = [tree[1]] if tree[0] == "not" else tree[1]
    return tree[0] + "(" + ", ".join(written(one) for one in inner) + ")"


def count(tree):
    """The number of the parts of a tree: each has one word that is no name."""
    if tree[0] in ("true", "told", "holds"):
        return 1
    if tree[0] == "not":
        return 1 + count(tree[1])
    return 1 + sum(count(one) for one in tree[1])


def names_of(tree):
    """The set of the branches in a tree."""
    if tree[0] == "true":
        return set()
    if tree[0] == "told":
        return {tree[1]}
    if tree[0] == "holds":
        return {tree[1], tree[2]}
    if tree[0] == "not":
        return names_of(tree[1])
    return set().union(*[names_of(one) for one in tree[1]])


def is_true(tree, plain):
    """Whether a tree is true behind the deeds of a plain store."""
    if tree[0] == "true":
        return True
    if tree[0] == "told" and tree[2] == "in":
        return plain.contents(tree[1]) != ()
    if tree[0] == "told":
        return plain.told(tree[1]) == tree[2]
    if tree[0] == "holds":
        return plain.holds(tree[1], tree[2])
    if tree[0] == "not":
        return not is_true(tree[1], plain)
    truths = [is_true(one, plain) for one in tree[1]]
    return False not in truths if tree[0] == "all" else True in truths


class Reading:
    """Reads a text from left to right, sign by sign."""

    def __init__(self, text):
        self.signs = SIGNS.findall(text)
        self.whole = "".join(self.signs) == text
        self.at = 0

    def next(self):
        sign = self.signs[self.at] if self.at < len(self.signs) else None
        self.at += 1
        return sign

    def take(self, *signs):
        return all([self.next() == sign for sign in signs])

    def tree(self):
        """The tree that stands here, or None."""
        word = self.next()
        if word is None or not NAME.match(word):
            return None
        following = self.signs[self.at] if self.at < len(self.signs) else None
        if following == "(" and word in ("not", "all", "any"):
            return self.brackets(word)
        if following == " ":
            return self.told(word)
        return ("true",) if word == "true" else None

    def told(self, name):
        self.next()
        word = self.next()
        if word == "holds":
            if not self.take(" "):
                return None
            other = self.next()
            right = other is not None and NAME.match(other) and other != name
            return ("holds", name, other) if right else None
        return ("told", name, word) if word in WORDS else None

    def brackets(self, word):
        self.next()
        trees = [self.tree()]
        while trees[-1] is not None and self.signs[self.at:self.at + 1] == [", "]:
            self.next()
            trees.append(self.tree())
        if None in trees or self.next() != ")":
            return None
        if word == "not":
            return ("not", trees[0]) if len(trees) == 1 else None
        return (word, tuple(trees)) if len(trees) in (2, 3) else None


def read(text):
    """The tree of a text, or None if it is no text of a condition."""
    reading = Reading(text)
    if not reading.whole:
        return None
    tree = reading.tree()
    if tree is None or reading.at != len(reading.signs) or count(tree) > 8:
        return None
    return tree
