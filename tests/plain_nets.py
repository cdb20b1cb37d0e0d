"""Nets of plain stores: found level by level, and asked by trying all that may be tried."""

import trees
from histories import Draw
from plain_stores import PlainStore
from stillmeant.conditions import Condition
from stillmeant.deeds import all_deeds
from stillmeant.moments import Moment
from stillmeant.policies import Policy


class Overflow(Exception):
    """More situations than are looked for."""


class PlainNet:
    """All plain stores to which lines, pairs of a deed and a tree, lead from some plain stores."""

    def __init__(self, lines, starts, most=10 ** 6):
        self.lines = lines
        self.plains = []
        self.histories = []
        self.edges = {}
        self.numbers = {}
        self.most = most
        level = [([], plain) for plain in starts]
        while level:
            new = [self.found(history, plain) for history, plain in level]
            level = []
            for number in new:
                if number is not None:
                    level += self.steps(number)
            level.sort(key=lambda pair: pair[0])

    def found(self, history, plain):
        """The number of a plain store if it is found for the first time, otherwise None."""
        key = plain.key
        if key in self.numbers:
            return None
        if len(self.plains) == self.most:
            raise Overflow()
        self.numbers[key] = len(self.plains)
        self.plains.append(plain)
        self.histories.append(history)
        return self.numbers[key]

    def steps(self, number):
        """The histories with one more line behind a plain store, with the stores behind them."""
        plain = self.plains[number]
        behind = []
        for line, (deed, tree) in enumerate(self.lines):
            if trees.is_true(tree, plain) and plain.refusal(deed) == "":
                twin = plain.twin()
                twin.do(deed)
                behind.append((line, twin))
        self.edges[number] = [(line, twin.key) for line, twin in behind]
        return [(self.histories[number] + [line], twin) for line, twin in behind]

    def ways(self, number):
        return [(line, self.numbers[key]) for line, key in self.edges[number]]

    def truths(self, tree):
        return [trees.is_true(tree, plain) for plain in self.plains]

    def plan(self, number, truths):
        """The least of the shortest lists of lines that lead from one store to a truth, or None."""
        level = [([], number)]
        seen = set()
        while level:
            right = sorted(lines for lines, at in level if truths[at])
            if right:
                return right[0]
            seen |= {at for _, at in level}
            level = [(lines + [line], behind) for lines, at in level for line, behind in self.ways(at)
                     if behind not in seen]
            least = {}
            for lines, at in sorted(level, reverse=True):
                least[at] = lines
            level = [(lines, at) for at, lines in least.items()]
        return None


def plain_net(shape, lines, most=10 ** 6):
    return PlainNet(lines, [PlainStore(shape)], most)


def right_tree(shape):
    """The tree of the condition that all is right."""
    return ("all", tuple(("told", branch, "right") for branch in shape.branches))


def made_policy(shape, lines):
    return Policy(shape, [(deed, Condition(trees.written(tree))) for deed, tree in lines])


def drawn_lines(draw, shape, many, parts=4, words=None):
    """Lines, about a half of them without a condition, and the first one a deed that makes the change."""
    deeds = [deed for deed in all_deeds(shape) if words is None or deed[0] in words]
    makes = [deed for deed in all_deeds(shape) if deed[0] == "make"]
    lines = []
    for at in range(many):
        tree = ("true",)
        if draw.below(2):
            tree = trees.drawn(draw, list(shape.branches), 1 + draw.below(parts))
        lines.append((draw.one_of(deeds if at else makes), tree))
    return lines


class Case:
    """A policy of drawn lines, with all the plain stores to which it leads."""

    def __init__(self, shape, lines, plain):
        self.shape = shape
        self.lines = lines
        self.plain = plain
        self.policy = made_policy(shape, lines)

    def repair(self, draw, many, most):
        """Lines of a repair and the plain stores to which they lead, or None if there are too many."""
        lines = drawn_lines(draw, self.shape, many)
        try:
            return lines, PlainNet(lines, self.plain.plains, most)
        except Overflow:
            return None

    def moments(self):
        return moments_of(self.plain)


def moments_of(plain):
    """The moments of a plain net, made by their deeds and not by a net."""
    return [moment_behind(store.shape, store.log) for store in plain.plains]


def moment_behind(shape, deeds):
    moment = Moment(shape)
    for deed in deeds:
        moment = moment.after(deed)
    return moment


def drawn_cases(seed, shapes, count, *, many=8, least=4, most=60, parts=4, words=None):
    """So many policies of up to so many lines, each with at least and at most so many moments."""
    draw = Draw(seed)
    cases = []
    while len(cases) < count:
        shape = shapes[len(cases) * 7 % len(shapes)]
        lines = drawn_lines(draw, shape, 1 + draw.below(many), parts, words)
        try:
            plain = plain_net(shape, lines, most)
        except Overflow:
            continue
        if len(plain.plains) >= least:
            cases.append(Case(shape, lines, plain))
    return cases
