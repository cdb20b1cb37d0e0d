"""Papers: what is judged of policies, papers that are spoilt, histories of any values, and known cases."""

import unittest

import known
import trees
from histories import Draw, all_shapes
from plain_nets import drawn_cases, moment_behind, moments_of
from plain_stores import PlainStore
from samples import ANY_VALUES, same
from stillmeant.conditions import Condition
from stillmeant.deeds import all_deeds
from stillmeant.errors import UnknownBranch
from stillmeant.mendings import Mending
from stillmeant.moments import Moment
from stillmeant.nets import Net
from stillmeant.papers import Ever, Never, Verdict, judged
from stillmeant.policies import Policy
from stillmeant.shapes import Shape

PAIRS = [shape for shape in all_shapes() if len(shape.branches) == 2]


def some_trees(draw, shape, count):
    """All trees without brackets, and some with up to eight parts."""
    names = list(shape.branches)
    return trees.leaves(names) + [trees.drawn(draw, names, 1 + draw.below(8)) for _ in range(count)]


def keys(moments):
    return [moment.key for moment in moments]


class Judged(unittest.TestCase):
    def check(self, case, net, tree):
        condition = Condition(trees.written(tree))
        paper = judged(net, condition)
        truths = case.plain.truths(tree)
        self.assertIs(paper.condition, condition)
        self.assertIs(paper.holds(case.policy), True)
        self.assertIsInstance(paper, Verdict)
        if True in truths:
            self.assertIs(type(paper), Ever)
            self.assertEqual((paper.WORD, repr(paper)), ("ever", "Verdict(ever)"))
            self.assertTrue(same(paper.history(), case.plain.histories[truths.index(True)]))
            self.assertTrue(condition.holds(case.policy.played(*paper.history())))
        else:
            self.assertIs(type(paper), Never)
            self.assertEqual((paper.WORD, repr(paper)), ("never", "Verdict(never)"))
            self.assertTrue(same(keys(paper.moments()), [store.key for store in case.plain.plains]))
            self.assertEqual(paper.moments(), net.moments())
        return paper.WORD

    def test_drawn_policies(self):
        words = []
        for seed, case in enumerate(drawn_cases(11, PAIRS, 160)):
            net = Net(case.policy)
            for tree in some_trees(Draw(seed), case.shape, 6):
                words.append(self.check(case, net, tree))
        self.assertGreater(words.count("never"), 500)
        self.assertGreater(words.count("ever"), 500)

    def test_three_branches(self):
        shapes = [shape for shape in all_shapes() if len(shape.branches) == 3]
        for seed, case in enumerate(drawn_cases(12, shapes, 30)):
            net = Net(case.policy)
            for tree in some_trees(Draw(seed), case.shape, 4):
                self.check(case, net, tree)

    def test_a_condition_that_is_always_true(self):
        paper = judged(Net(known.FLOW), Condition("true"))
        self.assertEqual((paper.WORD, paper.history(), paper.holds(known.FLOW)), ("ever", [], True))

    def test_unknown_branches(self):
        for text, name in [("zap in", "zap"), ("all(zap in, abc in)", "abc"), ("any(true, main holds zap)", "zap"),
                           ("any(zap holds dev, yes back, main in)", "yes")]:
            for policy in (known.FLOW, known.TALKS):
                with self.assertRaises(UnknownBranch) as caught:
                    judged(Net(policy), Condition(text))
                self.assertEqual((caught.exception.name, caught.exception.code), (name, "UnknownBranch"))

    def test_arguments_by_name(self):
        net = Net(known.FLOW)
        condition = Condition("main back")
        paper = judged(condition=condition, net=net)
        self.assertEqual(paper.history(), [0, 2, 3, 1])
        self.assertIs(paper.holds(policy=known.FLOW), True)
        self.assertIs(Never(moments=net.moments(), condition=Condition("dev twice")).holds(known.FLOW), True)
        self.assertIs(Ever(history=[0], condition=Condition("dev in")).holds(known.FLOW), True)
        self.assertIs(Verdict(condition=condition).condition, condition)

    def test_a_paper_of_another_policy(self):
        cases = drawn_cases(13, [Shape("main", "dev", bases="any")], 14, most=20)
        for one in cases:
            net = Net(one.policy)
            for word in ("in", "gone", "back", "quarrel", "right"):
                condition = Condition("main " + word)
                paper = judged(net, condition)
                for other in cases:
                    if paper.WORD == "never":
                        logs = [store.log for store in one.plain.plains]
                        good = is_good(other, condition.tree, logs)
                    else:
                        good = is_history(other, condition.tree, paper.history())
                    self.assertIs(paper.holds(other.policy), good)


def is_good(case, tree, logs):
    """Whether the plain stores behind some deeds show that a tree is never true."""
    plains = []
    for log in logs:
        plain = PlainStore(case.shape)
        for deed in log:
            plain.do(deed)
        plains.append(plain)
    among = [plain.key for plain in plains]
    if PlainStore(case.shape).key not in among:
        return False
    for plain in plains:
        if trees.is_true(tree, plain):
            return False
        for deed, condition in case.lines:
            if trees.is_true(condition, plain) and plain.refusal(deed) == "":
                twin = plain.twin()
                twin.do(deed)
                if twin.key not in among:
                    return False
    return True


def is_history(case, tree, history):
    """Whether these values are a history of the lines behind which a tree is true."""
    plain = PlainStore(case.shape)
    for line in history:
        if type(line) is not int or not 0 <= line < len(case.lines):
            return False
        deed, condition = case.lines[line]
        if not trees.is_true(condition, plain) or plain.refusal(deed) != "":
            return False
        plain.do(deed)
    return trees.is_true(tree, plain)


class Verdicts(unittest.TestCase):
    def test_the_base_class(self):
        for text in ("true", "main in", "not(main right)"):
            condition = Condition(text)
            paper = Verdict(condition)
            self.assertIs(paper.condition, condition)
            self.assertEqual((paper.WORD, repr(paper)), ("open", "Verdict(open)"))
            self.assertIs(paper.holds(known.FLOW), False)
            self.assertIs(paper.holds(known.TALKS), False)

    def test_the_words_of_the_classes(self):
        self.assertEqual((Verdict.WORD, Never.WORD, Ever.WORD), ("open", "never", "ever"))
        self.assertTrue(issubclass(Never, Verdict) and issubclass(Ever, Verdict))
        self.assertEqual(repr(Never(Condition("true"), [])), "Verdict(never)")
        self.assertEqual(repr(Ever(Condition("true"), [])), "Verdict(ever)")


class Nevers(unittest.TestCase):
    def check(self, case, tree, logs, others=(), as_tuple=False):
        """Checks a paper with the moments behind some deeds, and others that have no such shape."""
        condition = Condition(trees.written(tree))
        moments = [moment_behind(case.shape, log) for log in logs] + list(others)
        passed = tuple(moments) if as_tuple else list(moments)
        paper = Never(condition, passed)
        good = not others and is_good(case, tree, logs)
        self.assertIs(paper.holds(case.policy), good, (case.policy.text, condition, logs))
        self.assertIs(paper.condition, condition)
        self.assertIsInstance(paper.moments(), list)
        self.assertEqual(paper.moments(), moments)
        self.assertEqual(list(passed), moments)
        return good

    def test_changed_lists_of_moments(self):
        found = []
        for seed, case in enumerate(drawn_cases(14, PAIRS, 60, most=14)):
            draw = Draw(seed)
            logs = [store.log for store in case.plain.plains]
            dead = [tree for tree in some_trees(draw, case.shape, 4) if True not in case.plain.truths(tree)]
            for tree in dead[:4]:
                self.assertTrue(self.check(case, tree, logs))
                self.assertTrue(self.check(case, tree, logs[::-1], as_tuple=True))
                self.assertTrue(self.check(case, tree, logs + logs))
                self.assertTrue(self.check(case, tree, logs[3:] + logs[:4]))
                found += [self.check(case, tree, logs[:at] + logs[at + 1:]) for at in range(len(logs))]
                found += [self.check(case, tree, logs[1:at] + logs[at - 1:]) for at in range(1, len(logs))]
                found += [self.check(case, tree, self.with_strange(case, draw, logs)) for _ in range(4)]
                self.assertFalse(self.check(case, tree, []))
        self.assertGreater(found.count(True), 20)
        self.assertGreater(found.count(False), 200)

    def with_strange(self, case, draw, logs):
        """The deeds of a net and one more row of deeds, put in between."""
        store = draw.one_of(case.plain.plains)
        deeds = [deed for deed in all_deeds(case.shape) if store.refusal(deed) == ""]
        at = draw.below(len(logs) + 1)
        return logs[:at] + [store.log + [draw.one_of(deeds)]] + logs[at:]

    def test_more_moments_than_the_net_may_stand_in_it(self):
        policy = known.read("shape main dev 1 1100 any", "pass main if true", "pass dev if dev gone")
        first = Moment(policy.shape)
        passed = first.after(("pass", "main"))
        meant = first.after(("mean", "main", "in"))
        behind = meant.after(("pass", "main"))
        back = Condition("dev gone")
        self.assertIs(Never(back, [first, passed]).holds(policy), True)
        self.assertIs(Never(back, [first, passed, meant]).holds(policy), False)
        self.assertIs(Never(back, [first, passed, meant, behind]).holds(policy), True)
        self.assertIs(Never(back, [meant, behind]).holds(policy), False)
        self.assertIs(Never(Condition("main gone"), [first, passed, meant, behind]).holds(policy), False)

    def test_moments_of_other_shapes(self):
        shapes = [Shape("main", "dev", places=2), Shape("main", "dev", table="0110"), Shape("dev", "main"),
                  Shape("main", "dev", "zoo"), Shape("one", "two"), Shape("main", "dev", bases="every")]
        for case in drawn_cases(15, [Shape("main", "dev")], 6, most=14):
            logs = [store.log for store in case.plain.plains]
            dead = [tree for tree in trees.leaves(["main", "dev"]) if True not in case.plain.truths(tree)]
            for tree in dead[:3]:
                for shape in shapes:
                    for other in ([Moment(shape)], [Moment(shape), Moment(shape).after(("pass", shape.branches[0]))]):
                        self.check(case, tree, logs, other)
                        self.check(case, tree, [], other + moments_of(case.plain))

    def test_a_policy_of_another_shape(self):
        lines = known.FLOW.lines()
        paper = judged(Net(known.FLOW), Condition("dev twice"))
        self.assertIs(paper.holds(known.FLOW), True)
        for change in ({"places": 2}, {"table": "1101"}, {"bases": "any"}):
            self.assertIs(paper.holds(Policy(known.FLOW.shape.changed(**change), lines)), False)
        self.assertIs(paper.holds(Policy(Shape("dev", "main"), lines)), False)
        self.assertIs(paper.holds(Policy(Shape("main", "dev", "zoo"), lines)), False)

    def test_lists_are_copied(self):
        moments = Net(known.FLOW).moments()
        paper = Never(Condition("dev twice"), moments)
        many = len(moments)
        moments.clear()
        self.assertEqual((len(paper.moments()), paper.holds(known.FLOW)), (many, True))
        paper.moments().clear()
        self.assertEqual((len(paper.moments()), paper.holds(known.FLOW)), (many, True))


class Evers(unittest.TestCase):
    def check(self, case, tree, history):
        condition = Condition(trees.written(tree))
        passed = list(history)
        paper = Ever(condition, passed)
        good = is_history(case, tree, history)
        self.assertIs(paper.holds(case.policy), good, (case.policy.text, condition, history))
        self.assertIs(Ever(condition, tuple(history)).holds(case.policy), good)
        self.assertIsInstance(paper.history(), list)
        self.assertTrue(same(paper.history(), list(history)))
        self.assertTrue(same(passed, list(history)))
        return good

    def test_rows_of_lines(self):
        found = []
        for seed, case in enumerate(drawn_cases(16, PAIRS, 80)):
            draw = Draw(seed)
            rows = some_trees(draw, case.shape, 6)
            many = len(case.lines)
            for length in range(7):
                for _ in range(6):
                    tree = draw.one_of(rows)
                    found.append(self.check(case, tree, [draw.below(many) for _ in range(length)]))
                    found.append(self.check(case, tree, self.played(case, draw, length)))
        self.assertGreater(found.count(True), 300)
        self.assertGreater(found.count(False), 1000)

    def played(self, case, draw, length):
        """A history of this length, or a shorter one that ends."""
        number = 0
        history = []
        for _ in range(length):
            ways = case.plain.ways(number)
            if not ways:
                break
            line, number = draw.one_of(ways)
            history.append(line)
        return history

    def test_values_that_are_no_lines(self):
        for seed, case in enumerate(drawn_cases(17, PAIRS, 12)):
            draw = Draw(seed)
            for value in ANY_VALUES + [len(case.lines), -1]:
                history = self.played(case, draw, draw.below(5))
                at = draw.below(len(history) + 1)
                self.check(case, ("true",), history[:at] + [value] + history[at:])
                self.check(case, ("true",), [value])

    def test_truths_are_no_lines(self):
        policy = known.read("shape main dev 1 1100 any", "pass main if true", "pass dev if true")
        self.assertIs(Ever(Condition("true"), [0, 1]).holds(policy), True)
        for value in (True, False, (0,), [0], "0", None, 2, -1, -2):
            self.assertIs(Ever(Condition("true"), [value]).holds(policy), False)
            self.assertIs(Ever(Condition("true"), [0, value]).holds(policy), False)
            self.assertIs(Ever(Condition("true"), [value, 0]).holds(policy), False)

    def test_no_lines(self):
        self.assertIs(Ever(Condition("true"), []).holds(known.FLOW), True)
        self.assertIs(Ever(Condition("main right"), ()).holds(known.FLOW), True)
        self.assertIs(Ever(Condition("main in"), []).holds(known.FLOW), False)

    def test_lists_are_copied(self):
        history = [0, 2, 3, 1]
        paper = Ever(Condition("main back"), history)
        history.append(7)
        paper.history().clear()
        self.assertEqual((paper.history(), paper.holds(known.FLOW)), ([0, 2, 3, 1], True))


class KnownCases(unittest.TestCase):
    """A change that is merged and taken back, with the plain table, worked out by hand."""

    SHAPE = "shape main dev 1 1100 newest"

    def told(self, *deeds):
        moment = moment_behind(Shape("main", "dev"), deeds)
        return [moment.told(branch) for branch in ("main", "dev")]

    def found(self, text, *rows):
        return judged(Net(known.read(self.SHAPE, *rows)), Condition(text))

    def test_what_is_told(self):
        made = [("make", "dev", 0), ("merge", "main", "dev")]
        dropped = made + [("drop", "main", 0)]
        passed = [("pass", "dev"), ("merge", "main", "dev")]
        again = [("hear", "dev", "main"), ("mean", "dev", "in")]
        self.assertEqual(self.told(*made), ["right", "right"])
        self.assertEqual(self.told(*dropped), ["right", "right"])
        self.assertEqual(self.told(*dropped, *passed), ["right", "right"])
        self.assertEqual(self.told(*dropped, ("mean", "dev", "in"), *passed), ["quarrel", "right"])
        self.assertEqual(self.told(*dropped, *again[:1]), ["right", "back"])
        self.assertEqual(self.told(*dropped, *again), ["right", "right"])
        self.assertEqual(self.told(*dropped, *again, *passed), ["gone", "right"])
        self.assertEqual(self.told(*dropped, *again, *passed, ("restore", "main", 0)), ["right", "right"])
        self.assertEqual(self.told(*dropped, ("merge", "dev", "main")), ["right", "right"])
        self.assertEqual(self.told(*dropped, ("mean", "dev", "in"), ("merge", "dev", "main")), ["right", "quarrel"])
        self.assertEqual(self.told(("make", "dev", 0), ("mean", "dev", "out")), ["right", "back"])

    def test_a_merge_does_not_bring_it_back(self):
        rows = ["make dev 0 if true", "merge main dev if true", "drop main 0 if true", "pass dev if true"]
        for text in ("main back", "main gone", "main quarrel", "dev back", "main twice",
                     "all(dev holds main, main in)"):
            paper = self.found(text, *rows)
            self.assertEqual(paper.WORD, "never", text)
            self.assertIs(paper.holds(known.read(self.SHAPE, *rows)), True)
        self.assertEqual(self.found("all(main holds dev, not(main in), dev in)", *rows).history(), [0, 1, 2])
        self.assertEqual(self.found("all(not(main holds dev), not(dev holds main), not(main in))", *rows).history(),
                         [3, 1, 0])

    def test_a_change_that_is_meant_again_is_lost_by_the_next_merge(self):
        rows = ["make dev 0 if true", "merge main dev if true", "drop main 0 if true", "hear dev main if true",
                "mean dev in if dev back", "pass dev if true"]
        self.assertEqual(self.found("main gone", *rows).history(), [0, 1, 2, 3, 4, 5, 1])
        self.assertEqual(self.found("dev back", *rows).history(), [0, 1, 2, 3])
        for text in ("main quarrel", "dev quarrel", "dev gone", "main back", "main twice"):
            self.assertEqual(self.found(text, *rows).WORD, "never", text)
        rows[4] = "mean dev in if true"
        self.assertEqual(self.found("main gone", *rows).history(), [4, 5, 1])
        self.assertEqual(self.found("dev gone", *rows).history(), [4])
        self.assertEqual(self.found("all(main quarrel, dev in)", *rows).history(), [0, 1, 2, 4, 5, 1])

    def test_the_table_that_brings_it_back(self):
        rows = ["make dev 0 if true", "merge main dev if true", "drop main 0 if true", "pass dev if true"]
        policy = known.read("shape main dev 1 1110 newest", *rows)
        self.assertEqual(judged(Net(policy), Condition("main back")).history(), [0, 1, 2, 3, 1])

    def test_a_pick_and_a_merge(self):
        paper = judged(Net(known.FLOW), Condition("main back"))
        self.assertEqual((paper.WORD, paper.history(), paper.holds(known.FLOW)), ("ever", [0, 2, 3, 1], True))

    def test_a_drop_that_is_merged(self):
        rows = ["make dev 0 if true", "merge main dev if true", "drop main 0 if true", "merge dev main if true",
                "mean dev in if not(dev holds main)"]
        self.assertEqual(self.found("dev quarrel", *rows).history(), [0, 1, 2, 4, 3])
        self.assertEqual(self.found("all(dev holds main, main holds dev, dev in)", *rows).WORD, "never")
        self.assertEqual(self.found("main quarrel", *rows).history(), [0, 1, 2, 4, 3, 1])

    def test_the_needs(self):
        lost = [("make", "dev", 0), ("merge", "main", "dev"), ("drop", "main", 0), ("hear", "dev", "main"),
                ("mean", "dev", "in"), ("pass", "dev"), ("merge", "main", "dev")]
        net = Net(known.read(self.SHAPE, *[" ".join(map(str, deed)) + " if true" for deed in lost]))
        moment = moment_behind(Shape("main", "dev"), lost)
        for rows, plan in [(["restore main 0 if true"], [0]), (["mean main out if true"], [0]),
                           (["merge main dev if true", "pick main dev 0 0 if main gone"], [1]),
                           (["drop dev 0 if true", "hear main dev if true"], [0, 1]),
                           (["hear main dev if true", "drop dev 0 if main right"], None),
                           (["pass main if true", "merge dev main if true", "hear main dev if true"], None),
                           (["pass dev if true", "merge dev main if true", "mean dev out if not(dev in)",
                             "hear main dev if true"], [1, 2, 3])]:
            mending = Mending(net, known.read(self.SHAPE, *rows))
            self.assertEqual(mending.plan(moment), plan, rows)
            self.assertEqual(mending.need(moment), None if plan is None else len(plan))


if __name__ == "__main__":
    unittest.main()
