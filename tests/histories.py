"""Shapes and histories of deeds that are the same in each run, and checks against a store that keeps everything."""

from itertools import product

from plain_stores import PlainStore
from samples import same
from stillmeant.deeds import all_deeds
from stillmeant.shapes import Shape

TABLES = ["".join(digits) for digits in product("01", repeat=4)]
BASES = ["newest", "eldest", "any", "every", "refuse"]
# Merges come first in each of them, so that branches are merged crosswise often.
LIKED = [("merge",), ("merge", "make", "pick", "restore"), ("merge", "drop", "pass"), ("merge", "squash", "hear"),
         ("mean", "hear", "drop"), ("make", "drop", "restore", "pick")]


def all_shapes():
    """Shapes with 2 and 3 branches, 1 and 2 places, all tables and all words for bases."""
    for branches, places, table, bases in product([("main", "dev"), ("zoo", "main", "dev")], (1, 2), TABLES, BASES):
        yield Shape(*branches, places=places, table=table, bases=bases)


def plain_shapes():
    """Shapes with the plain table."""
    return [shape for shape in all_shapes() if shape.table == "1100"]


class Draw:
    """Numbers that look as if they were drawn, and are the same in each run."""

    def __init__(self, seed):
        self.state = seed * 7919 + 17

    def below(self, many):
        self.state = (self.state * 1103515245 + 12345) & 0x7FFFFFFF
        return (self.state >> 12) % many

    def one_of(self, items):
        return items[self.below(len(items))]


def next_deed(draw, plain):
    """A deed that is not refused, a merge more often than others."""
    deeds = [deed for deed in all_deeds(plain.shape) if plain.refusal(deed) == ""]
    liked = draw.one_of(LIKED)
    chosen = [deed for deed in deeds if deed[0] in liked]
    return draw.one_of(chosen or deeds)


def scattered(shape, seed, length, start=()):
    """A history of deeds that begins with some deeds, and the plain store behind it."""
    draw = Draw(seed)
    plain = plain_behind(shape, start)
    for _ in range(length):
        plain.do(next_deed(draw, plain))
    return plain.log, plain


def plain_behind(shape, deeds):
    plain = PlainStore(shape)
    for deed in deeds:
        plain.do(deed)
    return plain


def check_moment(case, moment, plain):
    """Checks what a moment, or a store, tells of each branch."""
    for branch in plain.shape.branches:
        case.assertTrue(same(moment.contents(branch), plain.contents(branch)), (plain.log, branch))
        case.assertEqual(moment.meaning(branch), plain.meaning(branch), plain.log)
        case.assertEqual(moment.told(branch), plain.told(branch), plain.log)


def check_links(case, moment, plain):
    """Checks where the change stood, which branch holds which, and the bases of merges."""
    for branch in plain.shape.branches:
        case.assertTrue(same(moment.stood(branch), plain.stood(branch)), (plain.log, branch))
        for other in plain.shape.branches:
            case.assertIs(moment.holds(branch, other), plain.holds(branch, other))
            bases = moment.bases_of(branch, other)
            case.assertTrue(same(bases, plain.bases_of(branch, other)), (plain.log, branch, other, bases))


def check_refusals(case, moment, plain):
    """Checks the refusal of each deed, and the list of those that are not refused."""
    right = []
    for deed in all_deeds(plain.shape):
        word = plain.refusal(deed)
        case.assertEqual(moment.refusal(deed), word, (plain.log, deed))
        if word == "":
            right.append(deed)
    case.assertTrue(same(moment.deeds(), right))


def check_store(case, store, plain):
    """Checks everything that a store tells."""
    check_moment(case, store, plain)
    case.assertTrue(same(store.moment.key, plain.key))
    case.assertTrue(same(store.log(), plain.log))
    case.assertTrue(same(store.versions(), plain.versions()), plain.log)
    case.assertTrue(same(store.words(), plain.words()), plain.log)
    case.assertEqual(len(store), len(plain.log))
    case.assertEqual(repr(store), f"Store({len(plain.log)} deeds)")
    for branch in plain.shape.branches:
        case.assertTrue(same(store.past(branch), plain.past(branch)), (plain.log, branch))
        case.assertTrue(same(store.heard(branch), plain.words_heard(branch)), (plain.log, branch))
