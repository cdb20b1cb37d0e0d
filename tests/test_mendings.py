"""Mendings: needs and plans of all moments behind a repair, good papers and spoilt ones, and wrong values."""

import unittest

import known
import trees
from histories import Draw, all_shapes
from plain_nets import Overflow, PlainNet, drawn_cases, drawn_lines, made_policy, moment_behind, moments_of, right_tree
from plain_stores import PlainStore
from samples import same
from stillmeant.conditions import Condition
from stillmeant.deeds import all_deeds
from stillmeant.errors import TooMany, UnknownBranch, UnknownMoment, WrongShape
from stillmeant.mendings import Cure, Mending, Trap, all_right
from stillmeant.moments import Moment
from stillmeant.nets import Net
from stillmeant.policies import Policy
from stillmeant.shapes import Shape

PAIRS = [shape for shape in all_shapes() if len(shape.branches) == 2]
TRUE = Condition("true")
NONE = ~TRUE


def drawn_mendings(seed, count, *, shapes=None, most=40, many=6):
    """Cases with lines of a repair, all plain stores behind these, and the tree of a goal or None."""
    draw = Draw(seed)
    found = []
    for case in drawn_cases(seed, shapes or PAIRS, count, most=most, many=many):
        lines = drawn_lines(draw, case.shape, 1 + draw.below(many), 3)
        try:
            wide = PlainNet(lines, case.plain.plains, 3 * most)
        except Overflow:
            lines = lines[:1]
            wide = PlainNet(lines, case.plain.plains)
        goal = None
        if draw.below(3):
            goals = [trees.drawn(draw, list(case.shape.branches), 1 + draw.below(8)) for _ in range(1 + draw.below(16))]
            # What is seldom true has greater needs.
            goal = min(goals, key=lambda tree: wide.truths(tree).count(True) or len(wide.plains))
        found.append((case, lines, wide, goal))
    return found


def made_mending(case, lines, goal):
    repair = made_policy(case.shape, lines)
    if goal is None:
        return Mending(Net(case.policy), repair), repair
    return Mending(Net(case.policy), repair, goal=Condition(trees.written(goal))), repair


def is_cure(repair, goal, rows):
    """Whether rows are a good Cure, by the words of the document."""
    if any(moment.shape != repair.shape for moment, _ in rows):
        return False
    for moment, number in rows:
        behind = [repair.after(moment, line) for line in repair.possible(moment)]
        right = number == 0 and goal.holds(moment)
        nearer = number > 0 and any(other == after and each == number - 1 for after in behind for other, each in rows)
        if not right and not nearer:
            return False
    return True


def is_trap(repair, goal, moments):
    """Whether moments are a good Trap, by the words of the document."""
    if any(moment.shape != repair.shape for moment in moments):
        return False
    return not any(goal.holds(moment) or any(repair.after(moment, line) not in moments
                                             for line in repair.possible(moment)) for moment in moments)


class Needs(unittest.TestCase):
    def check(self, case, lines, wide, goal):
        mending, repair = made_mending(case, lines, goal)
        truths = wide.truths(right_tree(case.shape) if goal is None else goal)
        plans = [wide.plan(number, truths) for number in range(len(wide.plains))]
        needs = [None if plan is None else len(plan) for plan in plans]
        condition = all_right(case.shape) if goal is None else Condition(trees.written(goal))
        moments = moments_of(wide)
        for moment, plan, need in zip(moments, plans, needs):
            self.assertTrue(same(mending.need(moment), need))
            self.assertTrue(same(mending.plan(moment), plan))
            self.check_paper(mending, repair, condition, moment, need)
        many = len(case.plain.plains)
        self.assertTrue(same(mending.worst(), None if None in needs[:many] else max(needs[:many])))
        self.assertIsInstance(mending.hopeless(), list)
        self.assertEqual(mending.hopeless(), [moments[at] for at in range(many) if needs[at] is None])
        return needs

    def check_paper(self, mending, repair, goal, moment, need):
        paper = mending.why(moment)
        self.assertIs(paper.holds(repair), True)
        if need is None:
            self.assertIs(type(paper), Trap)
            self.assertIn(moment, paper.moments())
            self.assertTrue(is_trap(repair, goal, paper.moments()))
        else:
            self.assertIs(type(paper), Cure)
            self.assertTrue(any(other == moment and same(number, need) for other, number in paper.rows()))
            self.assertTrue(all(isinstance(row, tuple) for row in paper.rows()))
            self.assertTrue(is_cure(repair, goal, paper.rows()))

    def test_drawn_repairs(self):
        needs = []
        for row in drawn_mendings(21, 150):
            needs += self.check(*row)
        self.assertGreater(needs.count(None), 300)
        self.assertGreater(len([need for need in needs if need is not None and need > 1]), 60)

    def test_three_branches(self):
        shapes = [shape for shape in all_shapes() if len(shape.branches) == 3]
        for row in drawn_mendings(22, 24, shapes=shapes, most=30):
            self.check(*row)

    def test_a_policy_as_its_own_repair(self):
        for case in drawn_cases(23, PAIRS, 60):
            self.check(case, case.lines, case.plain, None)

    def test_moments_outside_of_the_net(self):
        policy = known.read("shape main dev 1 1100 any", "mean main in if true")
        repair = known.read("shape main dev 1 1100 any", "hear dev main if true", "make dev 0 if dev gone",
                            "merge main dev if dev in")
        mending = Mending(Net(policy), repair)
        gone = Moment(policy.shape).after(("mean", "main", "in"))
        heard = gone.after(("hear", "dev", "main"))
        made = heard.after(("make", "dev", 0))
        self.assertEqual([mending.plan(moment) for moment in (gone, heard, made)], [[0, 1, 2], [1, 2], [2]])
        self.assertEqual((mending.need(made.after(("merge", "main", "dev"))), mending.worst()), (0, 3))
        self.assertEqual(mending.hopeless(), [])
        self.assertEqual(mending.why(gone).rows()[0], (gone, 3))

    def test_a_moment_that_cannot_be_mended(self):
        policy = known.read("shape main dev 1 1100 any", "mean main in if true")
        mending = Mending(Net(policy), known.read("shape main dev 1 1100 any", "hear dev main if true"))
        gone = Moment(policy.shape).after(("mean", "main", "in"))
        self.assertEqual((mending.need(gone), mending.plan(gone), mending.worst()), (None, None, None))
        self.assertEqual(mending.hopeless(), [gone])
        self.assertEqual(mending.need(Moment(policy.shape)), 0)
        self.assertEqual(mending.plan(Moment(policy.shape)), [])

    def test_a_net_of_one_moment(self):
        policy = known.read("shape main dev 1 1100 any", "hear main dev if true")
        repair = known.read("shape main dev 1 1100 any", "pass dev if true", "make dev 0 if main holds dev")
        mending = Mending(Net(policy), repair, goal=Condition("dev in"))
        first = Moment(policy.shape)
        self.assertEqual((mending.plan(first), mending.worst(), mending.hopeless()), ([1], 1, []))
        self.assertIsNone(mending.plan(first.after(("pass", "dev"))))
        with self.assertRaises(UnknownBranch):
            Mending(Net(policy), repair, goal=Condition("zap in"))

    def test_goals_that_are_always_and_never_true(self):
        net = Net(known.FLOW)
        always = Mending(net, known.FLOW, goal=TRUE)
        self.assertEqual((always.worst(), always.hopeless()), (0, []))
        never = Mending(net, known.FLOW, goal=NONE)
        self.assertEqual((never.worst(), never.hopeless()), (None, net.moments()))
        self.assertEqual(len(never.why(net.moments()[0]).moments()), len(net))

    def test_the_least_of_equally_short_plans(self):
        policy = known.read("shape main dev 1 1100 any", "mean main in if true")
        repair = known.read("shape main dev 1 1100 any", "pass dev if true", "make main 0 if main holds dev",
                            "mean main out if true", "make main 0 if true")
        gone = Moment(policy.shape).after(("mean", "main", "in"))
        self.assertEqual(Mending(Net(policy), repair).plan(gone), [1])
        self.assertEqual(Mending(Net(policy), repair.without(1)).plan(gone), [1])
        self.assertEqual(Mending(Net(policy), repair.without(1, 2)).plan(gone), [1])
        goal = Condition("all(main in, not(main holds dev))")
        self.assertEqual(Mending(Net(policy), repair, goal=goal).plan(gone), [0, 3])
        self.assertEqual(Mending(Net(policy), repair.without(3), goal=goal).plan(gone), [1, 0])

    def test_returned_lists_are_new(self):
        policy = known.read("shape main dev 1 1100 any", "mean main in if true")
        mending = Mending(Net(policy), known.read("shape main dev 1 1100 any", "hear dev main if true"))
        gone = Moment(policy.shape).after(("mean", "main", "in"))
        first = Moment(policy.shape)
        for ask in [mending.hopeless, lambda: mending.plan(first), mending.why(gone).moments,
                    mending.why(first).rows]:
            before = ask()
            spoilt = ask()
            spoilt.append(None)
            self.assertEqual(ask(), before)


class Cures(unittest.TestCase):
    def check(self, repair, goal, rows):
        passed = list(rows)
        paper = Cure(goal, passed)
        good = is_cure(repair, goal, rows)
        self.assertIs(paper.holds(repair), good)
        self.assertIs(Cure(goal, tuple(rows)).holds(repair), good)
        self.assertIsInstance(paper.rows(), list)
        self.assertEqual((paper.rows(), passed), (rows, rows))
        self.assertTrue(all(same(mine[1], row[1]) for mine, row in zip(paper.rows(), rows)))
        return good

    def test_changed_rows(self):
        found = []
        for case, lines, wide, goal in drawn_mendings(24, 50, most=14, many=5):
            mending, repair = made_mending(case, lines, goal)
            condition = all_right(case.shape) if goal is None else Condition(trees.written(goal))
            moments = moments_of(wide)[:30]
            rows = [(moment, mending.need(moment)) for moment in moments if mending.need(moment) is not None]
            found += self.check_changed(Draw(len(rows)), repair, condition, rows, moments)
        self.assertGreater(found.count(True), 150)
        self.assertGreater(found.count(False), 150)

    def check_changed(self, draw, repair, goal, rows, moments):
        """Pairs that are left out, doubled, exchanged, and pairs with other numbers."""
        self.assertTrue(self.check(repair, goal, []))
        found = [self.check(repair, goal, rows), self.check(repair, goal, rows[::-1] + rows)]
        found += [self.check(repair, goal, [(moment, draw.below(4) - 1) for moment in moments]) for _ in range(3)]
        for _ in range(5 if rows else 0):
            at = draw.below(len(rows))
            moment, number = rows[at]
            found.append(self.check(repair, goal, rows[:at] + rows[at + 1:]))
            found.append(self.check(repair, goal, rows + [rows[at]]))
            for more in (-1, 1, 2, 999999999999 - number):
                found.append(self.check(repair, goal, rows[:at] + [(moment, number + more)] + rows[at + 1:]))
                found.append(self.check(repair, goal, rows + [(moment, number + more)]))
        return found

    def test_greater_numbers(self):
        repair = known.read("shape main dev 1 1100 any", "pass main if true", "make main 0 if true")
        first = Moment(repair.shape)
        passed = first.after(("pass", "main"))
        goal = Condition("not(main in)")
        self.assertIs(Cure(goal, [(first, 0)]).holds(repair), True)
        self.assertIs(Cure(goal, [(first, 1)]).holds(repair), False)
        self.assertIs(Cure(goal, [(passed, 1)]).holds(repair), False)
        self.assertIs(Cure(goal, [(passed, 1), (passed, 0)]).holds(repair), True)
        self.assertIs(Cure(goal, [(first, 7), *[(passed, number) for number in range(7)]]).holds(repair), True)
        self.assertIs(Cure(goal, [(first, -1)]).holds(repair), False)
        self.assertIs(Cure(goal, [(passed, 0), (passed, -1), (first, 0)]).holds(repair), False)
        self.assertIs(Cure(NONE, [(passed, 0)]).holds(repair), False)
        self.assertIs(Cure(NONE, [(passed, 1), (passed, 2)]).holds(repair), False)

    def test_moments_of_other_shapes(self):
        repair = known.read("shape main dev 1 1100 any", "pass main if true")
        first = Moment(repair.shape)
        goal = Condition("main right")
        for shape in [Shape("main", "dev"), Shape("dev", "main", bases="any"), Shape("main", "zoo", bases="any"),
                      Shape("one", "two"), Shape("main", "dev", places=2, bases="any")]:
            self.assertIs(Cure(goal, [(first, 0), (Moment(shape), 0)]).holds(repair), False)
            self.assertIs(Cure(goal, [(Moment(shape), 0), (first, 0)]).holds(repair), False)
            self.assertIs(Cure(goal, [(Moment(shape), 1), (first, 0)]).holds(repair), False)
            self.assertIs(Trap(~goal, [Moment(shape), first, first.after(("pass", "main"))]).holds(repair), False)
            self.assertIs(Trap(~goal, [first, first.after(("pass", "main")), Moment(shape)]).holds(repair), False)
            if goal.branch_names()[0] in shape.branches:
                other = Policy(shape, [(("pass", "main"), TRUE)])
                self.assertIs(Cure(goal, [(first, 0)]).holds(other), False)
                self.assertIs(Trap(~goal, [first]).holds(other), False)
        self.assertIs(Trap(~goal, [first, first.after(("pass", "main"))]).holds(repair), True)

    def test_lists_are_copied(self):
        repair = known.FLOW
        first = Moment(repair.shape)
        rows = [(first, 0)]
        moments = [first]
        cure = Cure(TRUE, rows)
        trap = Trap(NONE, moments)
        rows.append((first, 9))
        moments.append(Moment(Shape("one", "two")))
        cure.rows().clear()
        trap.moments().clear()
        self.assertEqual((cure.rows(), cure.holds(repair)), ([(first, 0)], True))
        self.assertEqual((trap.moments(), trap.holds(repair)), ([first], False))


class Traps(unittest.TestCase):
    def check(self, repair, goal, moments):
        passed = list(moments)
        paper = Trap(goal, passed)
        good = is_trap(repair, goal, moments)
        self.assertIs(paper.holds(repair), good)
        self.assertIs(Trap(goal, tuple(moments)).holds(repair), good)
        self.assertIsInstance(paper.moments(), list)
        self.assertEqual((paper.moments(), passed), (moments, moments))
        return good

    def test_moments_left_out(self):
        found = []
        for case, lines, wide, goal in drawn_mendings(25, 70, most=14, many=5):
            mending, repair = made_mending(case, lines, goal)
            condition = all_right(case.shape) if goal is None else Condition(trees.written(goal))
            self.assertTrue(self.check(repair, condition, []))
            moments = moments_of(wide)[:24]
            found.append(self.check(repair, condition, moments))
            hopeless = [moment for moment in moments_of(wide) if mending.need(moment) is None][:24]
            self.assertIs(self.check(repair, condition, hopeless + hopeless), self.check(repair, condition, hopeless))
            found += [self.check(repair, condition, hopeless[:at] + hopeless[at + 1:]) for at in range(len(hopeless))]
        self.assertGreater(found.count(True), 40)
        self.assertGreater(found.count(False), 100)


class WrongValues(unittest.TestCase):
    def test_wrong_shapes(self):
        shapes = [Shape("main", "dev"), Shape("main", "dev", table="0100"), Shape("main", "dev", places=2),
                  Shape("main", "dev", bases="eldest"), Shape("dev", "main"), Shape("main", "dev", "zoo")]
        for shape in shapes:
            net = Net(Policy(shape, [(("pass", "main"), TRUE)]))
            for other in shapes:
                repair = Policy(other, [(("pass", "dev"), TRUE)])
                if shape == other:
                    self.assertEqual(Mending(net, repair).worst(), 0)
                    continue
                for goal in (None, TRUE, Condition("zap in")):
                    with self.assertRaises(WrongShape) as caught:
                        Mending(net, repair, goal=goal)
                    self.assertEqual(caught.exception.code, "WrongShape")

    def test_strange_branches(self):
        net = Net(known.TALKS)
        wide = Policy(known.TALKS.shape, known.TALKS.lines())
        for text, name in [("zap in", "zap"), ("any(true, zap in, abc in)", "abc"), ("main holds zoo", "zoo")]:
            with self.assertRaises(UnknownBranch) as caught:
                Mending(net, wide, goal=Condition(text))
            self.assertEqual(caught.exception.name, name)

    def test_strange_branches_come_before_too_many_moments(self):
        net = Net(known.ORDERS)
        with self.assertRaises(UnknownBranch):
            Mending(net, known.OVER, goal=Condition("zap in"))
        with self.assertRaises(WrongShape):
            Mending(Net(known.TALKS), known.OVER, goal=Condition("zap in"))

    def test_too_many_moments(self):
        small = known.read("shape main dev zoo 1 1100 newest", "pass zoo if true")
        mending = Mending(Net(small), known.FULL)
        self.assertEqual((mending.worst(), mending.hopeless()), (0, []))
        for policy, repair in [(small, known.OVER), (known.ORDERS, known.OVER), (known.FULL, known.OVER),
                               (known.read("shape main dev zoo 1 1100 newest", "mean zoo in if true"), known.FULL)]:
            for goal in (None, TRUE, NONE):
                with self.assertRaises(TooMany) as caught:
                    Mending(Net(policy), repair, goal=goal)
                self.assertTrue(same(caught.exception.most, 2000))
        idle = known.read("shape main dev zoo 1 1100 newest", "drop main 0 if true")
        self.assertEqual(Mending(Net(known.FULL), idle).need(Moment(idle.shape)), 0)

    def test_the_moments_of_the_net_count(self):
        idle = known.read("shape main dev zoo 1 1100 newest", "make main 0 if main gone")
        for line in ("mean zoo in if true", "hear zoo main if true"):
            policy = known.read("shape main dev zoo 1 1100 newest", *known.TALK, *known.PASSES, line)
            with self.assertRaises(TooMany):
                Net(policy)
        with self.assertRaises(TooMany):
            Mending(Net(known.FULL), idle)

    def test_unknown_moments(self):
        for case, lines, wide, goal in drawn_mendings(26, 40, most=14, many=4):
            mending, _ = made_mending(case, lines, goal)
            among = [store.key for store in wide.plains]
            strange = 0
            for store in wide.plains[:10]:
                for deed in all_deeds(case.shape):
                    if store.refusal(deed) == "":
                        moment = moment_behind(case.shape, store.log + [deed])
                        if moment.key not in among:
                            strange += 1
                            self.refuse(mending, moment)
            self.assertGreater(strange, 0)
            for shape in (Shape("one", "two"), Shape("main", "dev", "zoo"), case.shape.changed(table="0001")):
                if shape != case.shape:
                    self.refuse(mending, Moment(shape))

    def refuse(self, mending, moment):
        for ask in (mending.need, mending.plan, mending.why):
            with self.assertRaises(UnknownMoment) as caught:
                ask(moment)
            self.assertEqual(caught.exception.code, "UnknownMoment")

    def test_all_right(self):
        for shape in all_shapes():
            condition = all_right(shape)
            self.assertIsInstance(condition, Condition)
            self.assertEqual(condition.text, "all(" + ", ".join(f"{name} right" for name in shape.branches) + ")")
        self.assertEqual(all_right(shape=Shape("zoo", "abc")).text, "all(zoo right, abc right)")
        self.assertTrue(all_right(Shape("zoo", "abc")).holds(Moment(Shape("abc", "zoo"))))

    def test_arguments_by_name(self):
        net = Net(known.FLOW)
        mending = Mending(repair=known.FLOW, net=net, goal=None)
        moment = net.moments()[-1]
        self.assertEqual((mending.need(moment=moment), mending.plan(moment=moment)), (1, [3]))
        paper = mending.why(moment=moment)
        self.assertIs(paper.holds(repair=known.FLOW), True)
        self.assertIs(Cure(rows=paper.rows(), goal=all_right(known.FLOW.shape)).holds(known.FLOW), True)
        self.assertIs(Trap(moments=net.moments(), goal=NONE).holds(repair=known.FLOW), True)
        self.assertEqual(PlainStore(known.FLOW.shape).key, net.moments()[0].key)


if __name__ == "__main__":
    unittest.main()
