"""Blames: sets of lines held against what is judged without them, equal and needless lines, and the bound."""

import unittest
from itertools import combinations

import known
import trees
from histories import Draw, all_shapes
from plain_nets import drawn_cases
from samples import same
from stillmeant.blames import blamed
from stillmeant.conditions import Condition
from stillmeant.errors import TooMany, UnknownBranch
from stillmeant.moments import Moment
from stillmeant.nets import Net
from stillmeant.papers import judged
from stillmeant.policies import Policy
from stillmeant.shapes import Shape

PAIRS = [shape for shape in all_shapes() if len(shape.branches) == 2]


def is_never(policy, lines, condition):
    """Whether a condition is never true under a policy without some lines."""
    if len(lines) == len(policy):
        return not condition.holds(Moment(policy.shape))
    return judged(Net(policy.without(*lines)), condition).WORD == "never"


def expected(policy, condition):
    """The sets to blame, found by trying all sets."""
    many = len(policy)
    sets = [lines for size in range(many + 1) for lines in combinations(range(many), size)
            if is_never(policy, lines, condition)]
    least = [lines for lines in sets if not any(set(other) < set(lines) for other in sets)]
    return sorted(least, key=lambda lines: (len(lines), lines))


class Drawn(unittest.TestCase):
    def check(self, case, condition):
        net = Net(case.policy)
        found = blamed(net, condition)
        self.assertTrue(same(found, expected(case.policy, condition)), (case.policy.text, condition, found))
        for lines in found:
            self.assertIs(is_never(case.policy, lines, condition), True)
        return found

    def test_drawn_policies(self):
        found = []
        for seed, case in enumerate(drawn_cases(31, PAIRS, 40, many=7, least=6, most=40)):
            draw = Draw(seed)
            names = list(case.shape.branches)
            rows = trees.leaves(names) + [trees.drawn(draw, names, 1 + draw.below(8)) for _ in range(8)]
            firsts = [(case.plain.truths(tree) + [True]).index(True) for tree in rows]
            # What is true late has more lines to blame.
            late = max([0] + [first for first in firsts if first < len(case.plain.plains)])
            for at in [firsts.index(late), draw.below(len(rows)), draw.below(len(rows)), draw.below(len(rows))]:
                found.append(self.check(case, Condition(trees.written(rows[at]))))
        self.assertGreater(len([sets for sets in found if len(sets) > 1]), 20)
        self.assertGreater(len([sets for sets in found if any(len(lines) > 1 for lines in sets)]), 10)
        self.assertGreater(found.count([()]), 5)

    def test_the_empty_set_and_no_set(self):
        for case in drawn_cases(32, PAIRS, 20, many=5):
            net = Net(case.policy)
            self.assertTrue(same(blamed(net, Condition("not(true)")), [()]))
            self.assertTrue(same(blamed(net, Condition("true")), []))
            branch = case.shape.branches[0]
            self.assertEqual(blamed(net, Condition(f"{branch} right")), [])

    def test_a_known_policy(self):
        net = Net(known.FLOW)
        self.assertEqual(blamed(net, Condition("main back")), [(0,), (1,), (2,), (3,)])
        self.assertEqual(blamed(net, Condition("main in")), [(0,), (1, 2)])
        self.assertEqual(blamed(net, Condition("main holds dev")), [])
        self.assertEqual(blamed(net, Condition("not(main holds dev)")), [(0,)])
        self.assertEqual(blamed(net, Condition("any(main in, dev in)")), [(0,)])
        self.assertEqual(blamed(net, Condition("dev twice")), [()])

    def test_all_lines_are_to_blame(self):
        rows = ["make main 0 if true", "mean dev in if true", "pass zoo if true"]
        net = Net(known.read("shape main dev zoo 1 1100 any", *rows))
        condition = Condition("any(main in, dev gone, not(main holds zoo))")
        self.assertEqual(blamed(net, condition), [(0, 1, 2)])
        one = Net(known.read("shape main dev 1 1100 any", "pass main if true"))
        self.assertEqual(blamed(one, Condition("not(dev holds main)")), [(0,)])

    def test_the_order(self):
        rows = ["make main 0 if true", "make dev 0 if true", "merge main dev if dev in", "hear main dev if true",
                "mean dev in if true"]
        net = Net(known.read("shape main dev 1 1100 any", *rows))
        found = blamed(net, Condition("main gone"))
        self.assertEqual(found, expected(net.policy, Condition("main gone")))
        self.assertEqual(found, [(3,), (1, 4)])

    def test_arguments_by_name(self):
        net = Net(known.FLOW)
        found = blamed(condition=Condition("main in"), net=net)
        self.assertEqual(found, [(0,), (1, 2)])
        found.clear()
        self.assertEqual(blamed(net, Condition("main in")), [(0,), (1, 2)])


class Bound(unittest.TestCase):
    def needless(self, many, rows):
        """A net of some lines and so many more of them that lead nowhere."""
        more = ["pass dev if not(true)", "drop main 0 if all(main in, not(main in))", "hear dev main if dev twice"]
        lines = rows + [more[at % 3] for at in range(many - len(rows))]
        return Net(known.read("shape main dev 1 1100 any", *lines))

    def test_ten_lines(self):
        rows = ["make main 0 if true", "merge dev main if true", "pick dev main 0 0 if true"]
        net = self.needless(10, rows)
        self.assertEqual(blamed(net, Condition("dev in")), [(0,), (1, 2)])
        self.assertEqual(blamed(net, Condition("dev in")), expected(net.policy, Condition("dev in")))
        self.assertEqual(blamed(net, Condition("dev gone")), [()])

    def test_ten_equal_lines(self):
        net = Net(known.read("shape main dev 1 1100 any", *["make main 0 if true"] * 10))
        self.assertEqual(blamed(net, Condition("main in")), [tuple(range(10))])
        self.assertEqual(blamed(net, Condition("main back")), [()])
        rows = ["make main 0 if true"] * 4 + ["pass dev if true"] * 3 + ["hear dev main if main in"] * 3
        net = Net(known.read("shape main dev 1 1100 any", *rows))
        self.assertEqual(blamed(net, Condition("dev gone")), [(7, 8, 9), (0, 1, 2, 3)])
        self.assertEqual(blamed(net, Condition("all(dev gone, not(main holds dev))")),
                         [(4, 5, 6), (7, 8, 9), (0, 1, 2, 3)])

    def test_more_than_ten_lines(self):
        rows = ["make main 0 if true", "merge dev main if true"]
        for many in (11, 12):
            net = self.needless(many, rows)
            for text in ("true", "not(true)", "dev in", "main back"):
                with self.assertRaises(TooMany) as caught:
                    blamed(net, Condition(text))
                self.assertTrue(same(caught.exception.most, 10))
        same_line = Policy(Shape("main", "dev"), [(("pass", "main"), Condition("true"))] * 11)
        with self.assertRaises(TooMany):
            blamed(Net(same_line), Condition("true"))

    def test_strange_branches_come_first(self):
        for many in (3, 10, 11, 12):
            net = self.needless(many, ["make main 0 if true"])
            for text, name in [("zap in", "zap"), ("any(true, zap in, abc in)", "abc"),
                               ("all(not(true), main holds zoo)", "zoo")]:
                with self.assertRaises(UnknownBranch) as caught:
                    blamed(net, Condition(text))
                self.assertEqual(caught.exception.name, name)


if __name__ == "__main__":
    unittest.main()
