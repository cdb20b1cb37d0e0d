"""Deeds: the tuples that say what people do and what they mean."""

from stillmeant.errors import InvalidDeed
from stillmeant.values import is_index

MEANINGS = ("in", "out")

# What stands behind the first word of a deed; the order is that of the document's table.
FORMS = {
    "make": ("branch", "place"),
    "restore": ("branch", "place"),
    "drop": ("branch", "place"),
    "pick": ("branch", "other", "place", "place"),
    "merge": ("branch", "other"),
    "squash": ("branch", "other"),
    "pass": ("branch",),
    "hear": ("branch", "other"),
    "mean": ("branch", "meaning"),
}


def is_deed(shape, value):
    """Whether any value is a deed of a shape."""
    if not isinstance(value, tuple) or not value:
        return False
    word, *items = value
    if not isinstance(word, str) or word not in FORMS:
        return False
    kinds = FORMS[word]
    if len(items) != len(kinds):
        return False
    return all([_fits(shape, kind, item, items[0]) for kind, item in zip(kinds, items)])


def _fits(shape, kind, item, branch):
    """Whether any value may stand as an item of a deed on a branch."""
    if kind == "place":
        return is_index(item, shape.places)
    if kind == "meaning":
        return item in MEANINGS
    if kind == "other" and item == branch:
        return False
    return item in shape.branches


def deed_text(deed):
    """The text of a deed."""
    return " ".join([str(item) for item in deed])


def read_deed(shape, text):
    """The deed of a shape with this text."""
    for deed in all_deeds(shape):
        if deed_text(deed) == text:
            return deed
    raise InvalidDeed()


def all_deeds(shape):
    """Yield all deeds of a shape, in the order of their first words and then of their items."""
    for word in FORMS:
        deeds = [(word,)]
        for kind in FORMS[word]:
            deeds = [(*deed, item) for deed in deeds for item in _choices(shape, kind, deed)]
        yield from deeds


def _choices(shape, kind, deed):
    """All values that may stand behind the first items of a deed, in their order."""
    if kind == "place":
        return list(range(shape.places))
    if kind == "meaning":
        return list(MEANINGS)
    if kind == "other":
        return [branch for branch in shape.branches if branch != deed[1]]
    return list(shape.branches)


def makes_version(deed):
    """Whether a deed makes a version on its branch."""
    return deed[0] not in ("hear", "mean")


def heard_branch(deed):
    """The branch that the branch of a deed hears, or None."""
    if deed[0] in ("pick", "merge", "squash", "hear"):
        return deed[2]
    return None


def said_word(deed, contents):
    """The word that a deed says, or None; the contents are those of its branch behind it."""
    word = deed[0]
    if word == "mean":
        return deed[2]
    if word in ("make", "restore", "pick"):
        return "in"
    if word == "drop":
        return "in" if contents else "out"
    return None
