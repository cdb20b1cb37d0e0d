"""Nets, papers, mendings and blames of the same policies, held against plain stores."""

import unittest

import trees
from histories import Draw, all_shapes
from plain_nets import Case, Overflow, drawn_cases, drawn_lines, made_policy, moments_of, plain_net, right_tree
from samples import same
from stillmeant.blames import blamed
from stillmeant.conditions import Condition
from stillmeant.mendings import Mending
from stillmeant.nets import Net
from stillmeant.papers import judged
from stillmeant.shapes import Shape
from test_blames import expected
from test_nets import check_net

TRIPLES = [Shape("main", "dev", "zoo", table=table, bases=bases)
           for table in ("1100", "0110", "1111", "0001") for bases in Shape.BASES]
TWO_PLACES = [shape for shape in all_shapes() if len(shape.branches) == 2 and shape.places == 2]


def check_judged(case, net, drawn, tree):
    paper = judged(net, Condition(trees.written(tree)))
    truths = drawn.plain.truths(tree)
    case.assertEqual(paper.WORD, "ever" if True in truths else "never")
    case.assertIs(paper.holds(drawn.policy), True)
    if True in truths:
        case.assertTrue(same(paper.history(), drawn.plain.histories[truths.index(True)]))
    else:
        case.assertEqual(paper.moments(), moments_of(drawn.plain))


def check_needs(case, drawn, repair, wide, tree):
    """Checks the needs, plans and papers of all moments behind a repair."""
    goal = None if tree is None else Condition(trees.written(tree))
    mending = Mending(Net(drawn.policy), repair, goal=goal)
    truths = wide.truths(right_tree(drawn.shape) if tree is None else tree)
    hopeless = []
    for number, moment in enumerate(moments_of(wide)):
        plan = wide.plan(number, truths)
        case.assertTrue(same(mending.plan(moment), plan))
        case.assertTrue(same(mending.need(moment), None if plan is None else len(plan)))
        paper = mending.why(moment)
        case.assertIs(paper.holds(repair), True)
        if plan is None:
            case.assertIn(moment, paper.moments())
            hopeless += [moment] if number < len(drawn.plain.plains) else []
        else:
            case.assertIn((moment, len(plan)), paper.rows())
    case.assertEqual(mending.hopeless(), hopeless)


class ThreeBranches(unittest.TestCase):
    """One or two drops and makes, and merges in any directions."""

    def cases(self, count):
        draw = Draw(41)
        cases = []
        while len(cases) < count:
            shape = TRIPLES[len(cases) % len(TRIPLES)]
            lines = []
            for words, many in [(["make"], 1 + draw.below(2)), (["merge"], 1 + draw.below(4)),
                                (["drop"], 1 + draw.below(2)), (["pass", "squash", "pick"], draw.below(2))]:
                lines += drawn_lines(draw, shape, many + 1, 2, words)[1:]
            try:
                plain = plain_net(shape, lines, 90)
            except Overflow:
                continue
            if len(plain.plains) >= 12:
                cases.append(Case(shape, lines, plain))
        return cases

    def test_everything(self):
        for seed, case in enumerate(self.cases(30)):
            net = Net(case.policy)
            check_net(self, net, case)
            for tree in trees.leaves(["main", "dev", "zoo"]):
                check_judged(self, net, case, tree)
            for tree in [("told", "main", "gone"), ("told", "dev", "back"), ("told", "zoo", "quarrel")]:
                condition = Condition(trees.written(tree))
                if seed % 3 == 0 and len(case.lines) < 8:
                    self.assertTrue(same(blamed(net, condition), expected(case.policy, condition)))
            check_needs(self, case, case.policy, case.plain, None)


class TwoPlaces(unittest.TestCase):
    def cases(self, count):
        draw = Draw(42)
        cases = []
        while len(cases) < count:
            shape = TWO_PLACES[len(cases) * 11 % len(TWO_PLACES)]
            lines = drawn_lines(draw, shape, 2, 2, ["make"]) + drawn_lines(draw, shape, 3, 2, ["pick"])[1:]
            lines += drawn_lines(draw, shape, 2 + draw.below(2), 2, ["merge", "drop", "mean", "squash"])[1:]
            try:
                plain = plain_net(shape, lines, 60)
            except Overflow:
                continue
            if len(plain.plains) >= 10:
                cases.append(Case(shape, lines, plain))
        return cases

    def test_everything(self):
        twice = 0
        for case in self.cases(50):
            net = Net(case.policy)
            check_net(self, net, case)
            for branch in case.shape.branches:
                for word in ("twice", "gone", "back", "quarrel"):
                    check_judged(self, net, case, ("told", branch, word))
                twice += True in case.plain.truths(("told", branch, "twice"))
            check_needs(self, case, case.policy, case.plain, None)
        self.assertGreater(twice, 15)


class LinesInAndOut(unittest.TestCase):
    def test_lines_left_out(self):
        shapes = [shape for shape in all_shapes() if len(shape.branches) == 2]
        for case in drawn_cases(43, shapes, 40, many=7):
            for at in range(len(case.lines)):
                left = case.lines[:at] + case.lines[at + 1:]
                if left:
                    smaller = Case(case.shape, left, plain_net(case.shape, left))
                    self.assertEqual(case.policy.without(at), smaller.policy)
                    self.check(case, smaller)

    def test_lines_put_in(self):
        shapes = [shape for shape in all_shapes() if len(shape.branches) == 2]
        draw = Draw(44)
        for case in drawn_cases(44, shapes, 60, many=6, most=30):
            at = draw.below(len(case.lines) + 1)
            lines = case.lines[:at] + drawn_lines(draw, case.shape, 1) + case.lines[at:]
            try:
                wider = Case(case.shape, lines, plain_net(case.shape, lines, 90))
            except Overflow:
                continue
            self.assertEqual(wider.policy.without(at), case.policy)
            self.check(wider, case)

    def check(self, wider, smaller):
        """A Never holds with fewer lines, an Ever with more of them, if its lines have the same indexes."""
        for tree in trees.leaves(list(wider.shape.branches)):
            check_judged(self, Net(smaller.policy), smaller, tree)
            paper = judged(Net(wider.policy), Condition(trees.written(tree)))
            if paper.WORD == "never":
                self.assertIs(paper.holds(smaller.policy), True)
                self.assertEqual(judged(Net(smaller.policy), paper.condition).WORD, "never")
            else:
                deeds = [wider.lines[line] for line in paper.history()]
                history = [smaller.lines.index(line) if line in smaller.lines else -1 for line in deeds]
                if -1 not in history:
                    self.assertEqual(judged(Net(smaller.policy), paper.condition).WORD, "ever")


class LongConditions(unittest.TestCase):
    def test_three_branches_and_two_places(self):
        shapes = [shape for shape in all_shapes() if len(shape.branches) == 3 and shape.places == 2]
        parts = set()
        for seed, case in enumerate(drawn_cases(45, shapes, 40, many=8, least=8, parts=8)):
            draw = Draw(seed)
            net = Net(case.policy)
            check_net(self, net, case)
            for _ in range(8):
                tree = trees.drawn(draw, list(case.shape.branches), 8)
                parts.add(trees.count(tree))
                check_judged(self, net, case, tree)
            check_needs(self, case, case.policy, case.plain, trees.drawn(draw, list(case.shape.branches), 8))
            found = case.repair(draw, 4, 120)
            if found is not None:
                lines, wide = found
                goal = trees.drawn(draw, list(case.shape.branches), 8)
                check_needs(self, case, made_policy(case.shape, lines), wide, goal)
        self.assertEqual(max(parts), 8)


if __name__ == "__main__":
    unittest.main()
