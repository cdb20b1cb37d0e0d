"""Alikes: policies with another table, word for bases, condition or line, how they part, and wrong shapes."""

import unittest

import known
import trees
from histories import BASES, TABLES, Draw, all_shapes
from plain_nets import Case, Overflow, PlainNet, drawn_cases, drawn_lines, made_policy, plain_net, right_tree
from plain_stores import PlainStore
from samples import same
from stillmeant.alikes import is_alike, parting
from stillmeant.conditions import Condition
from stillmeant.deeds import all_deeds, is_deed
from stillmeant.errors import TooMany, WrongShape
from stillmeant.mendings import Mending
from stillmeant.moments import Moment
from stillmeant.nets import Net
from stillmeant.policies import Policy
from stillmeant.shapes import Shape

PAIRS = [shape for shape in all_shapes() if len(shape.branches) == 2]
TRIPLES = [shape for shape in all_shapes() if len(shape.branches) == 3]


def plain_deeds(lines, plain):
    """The set of the deeds of the lines that are possible."""
    return {deed for deed, tree in lines if trees.is_true(tree, plain) and plain.refusal(deed) == ""}


def shown(plain):
    return [(plain.contents(branch), plain.meaning(branch), plain.told(branch)) for branch in plain.shape.branches]


def are_parted(one, other, mine, theirs):
    return shown(mine) != shown(theirs) or plain_deeds(one, mine) != plain_deeds(other, theirs)


def shortest(one, other, shapes, most=400):
    """The length of a shortest list behind which two rows of lines part, None if there is none, or Overflow."""
    level = [tuple(PlainStore(shape) for shape in shapes)]
    seen = set()
    length = 0
    while level:
        behind = []
        for mine, theirs in level:
            if are_parted(one, other, mine, theirs):
                return length
            for deed in sorted(plain_deeds(one, mine)):
                after = (mine.twin(), theirs.twin())
                for store in after:
                    store.do(deed)
                key = (after[0].key, after[1].key)
                if key not in seen:
                    seen.add(key)
                    behind.append(after)
        if len(seen) > most:
            raise Overflow()
        level = behind
        length += 1
    return None


class Checks(unittest.TestCase):
    def check(self, one, other, shapes):
        """Checks the list for two rows of lines, and tells its length."""
        length = shortest(one, other, shapes)
        policies = [made_policy(shape, lines) for shape, lines in zip(shapes, (one, other))]
        found = parting(*policies)
        self.assertIs(is_alike(*policies), length is None)
        self.assertIs(is_alike(*policies[::-1]), length is None)
        if length is None:
            self.assertIsNone(found)
            self.assertIsNone(parting(*policies[::-1]))
            return None
        for deeds in (found, parting(*policies[::-1])):
            self.assertIsInstance(deeds, list)
            self.assertEqual(len(deeds), length)
            self.check_list(one, other, shapes, deeds)
        return length

    def check_list(self, one, other, shapes, deeds):
        """Plays a list of deeds under both rows of lines: they part behind it."""
        mine, theirs = [PlainStore(shape) for shape in shapes]
        for deed in deeds:
            self.assertTrue(is_deed(shapes[0], deed))
            self.assertIn(deed, plain_deeds(one, mine) & plain_deeds(other, theirs))
            mine.do(deed)
            theirs.do(deed)
        self.assertTrue(are_parted(one, other, mine, theirs))

    def check_all(self, rows):
        lengths = []
        for one, other, shapes in rows:
            try:
                lengths.append(self.check(one, other, shapes))
            except Overflow:
                lengths.append(-1)
        return lengths


class Pairs(Checks):
    def test_another_table_or_word_for_bases(self):
        rows = []
        for seed, case in enumerate(drawn_cases(51, PAIRS, 240, many=7, words=None)):
            draw = Draw(seed)
            other = case.shape.changed(table=draw.one_of(TABLES)) if seed % 2 else \
                case.shape.changed(bases=draw.one_of(BASES))
            rows.append((case.lines, case.lines, (case.shape, other)))
        lengths = self.check_all(rows)
        self.assertGreater(lengths.count(None), 100)
        self.assertGreater(len([length for length in lengths if length is not None and length > 1]), 15)

    def test_merges_of_another_table(self):
        draw = Draw(52)
        rows = []
        for _ in range(200):
            shape = Shape("main", "dev", table=draw.one_of(TABLES), bases=draw.one_of(BASES))
            lines = drawn_lines(draw, shape, 2, 1, ["make"]) + drawn_lines(draw, shape, 5, 1, ["merge", "drop", "pass"])
            rows.append((lines, lines, (shape, shape.changed(table=draw.one_of(TABLES)))))
            rows.append((lines, lines, (shape, shape.changed(bases=draw.one_of(BASES)))))
        lengths = self.check_all(rows)
        self.assertGreater(lengths.count(None), 20)
        self.assertGreater(len([length for length in lengths if length is not None and length > 2]), 10)

    def test_another_condition_or_line(self):
        rows = []
        for seed, case in enumerate(drawn_cases(53, PAIRS, 240)):
            draw = Draw(seed)
            lines = list(case.lines)
            at = draw.below(len(lines))
            deed, _ = lines[at]
            if seed % 3 == 0:
                lines[at] = (deed, trees.drawn(draw, list(case.shape.branches), 1 + draw.below(8)))
            elif seed % 3 == 1:
                lines[at:at + 1] = drawn_lines(draw, case.shape, 2)[1:]
            else:
                lines.insert(at, drawn_lines(draw, case.shape, 2)[1])
            rows.append((case.lines, lines, (case.shape, case.shape)))
        lengths = self.check_all(rows)
        self.assertGreater(lengths.count(None), 30)
        self.assertGreater(lengths.count(0), 30)
        self.assertGreater(len([length for length in lengths if length is not None and length > 0]), 30)

    def test_equal_lines_in_another_order(self):
        for seed, case in enumerate(drawn_cases(54, PAIRS, 40)):
            draw = Draw(seed)
            lines = case.lines[::-1] + [draw.one_of(case.lines) for _ in range(12 - len(case.lines))]
            self.assertIsNone(self.check(case.lines, lines, (case.shape, case.shape)))

    def test_a_condition_that_says_the_same(self):
        for case in drawn_cases(55, PAIRS, 30, parts=4):
            lines = [(deed, ("not", ("not", tree))) for deed, tree in case.lines]
            self.assertIsNone(self.check(case.lines, lines, (case.shape, case.shape)))

    def test_three_branches(self):
        draw = Draw(56)
        rows = []
        for case in drawn_cases(56, TRIPLES, 40, many=7):
            at = draw.below(len(case.lines))
            rows.append((case.lines, case.lines, (case.shape, case.shape.changed(table=draw.one_of(TABLES)))))
            rows.append((case.lines, case.lines, (case.shape, case.shape.changed(bases=draw.one_of(BASES)))))
            if len(case.lines) > 1:
                rows.append((case.lines, case.lines[:at] + case.lines[at + 1:], (case.shape, case.shape)))
        lengths = self.check_all(rows)
        self.assertGreater(lengths.count(None), 30)
        self.assertGreater(len([length for length in lengths if length is not None and length > 0]), 10)

    def test_arguments_by_name(self):
        other = known.FLOW.without(3)
        self.assertEqual(len(parting(other=other, one=known.FLOW)), 2)
        self.assertIs(is_alike(other=other, one=known.FLOW), False)
        self.assertIs(is_alike(other=known.FLOW, one=known.FLOW), True)


class KnownCases(unittest.TestCase):
    def policy(self, first, *rows):
        return known.read(first, *rows)

    def test_the_table(self):
        rows = ["make dev 0 if true", "merge main dev if true", "drop main 0 if true", "pass dev if true"]
        plain = self.policy("shape main dev 1 1100 newest", *rows)
        deeds = [("make", "dev", 0), ("merge", "main", "dev"), ("drop", "main", 0), ("pass", "dev"),
                 ("merge", "main", "dev")]
        self.assertEqual(parting(plain, self.policy("shape main dev 1 1110 newest", *rows)), deeds)
        self.assertEqual(parting(plain, self.policy("shape main dev 1 0100 newest", *rows)), deeds[:2])
        self.assertIsNone(parting(plain, self.policy("shape main dev 1 1101 newest", *rows)))
        self.assertIsNone(parting(plain, self.policy("shape main dev 1 1100 any", *rows)))

    def test_a_drop_that_is_merged_back(self):
        rows = ["make dev 0 if true", "merge main dev if true", "drop main 0 if true", "merge dev main if true"]
        one = self.policy("shape main dev 1 1100 newest", *rows)
        other = self.policy("shape main dev 1 1101 newest", *rows)
        self.assertEqual(parting(one, other), [("make", "dev", 0), ("merge", "main", "dev"), ("drop", "main", 0),
                                               ("merge", "dev", "main")])

    def test_two_bases(self):
        rows = ["make main 0 if true", "pass dev if true", "merge main dev if true", "merge dev main if true",
                "drop dev 0 if main holds dev"]
        found = [self.policy(f"shape main dev 1 1100 {word}", *rows) for word in BASES]
        for one in found:
            for other in found:
                if one == other:
                    self.assertIsNone(parting(one, other))
                    self.assertIs(is_alike(one, other), True)

    def test_the_empty_list(self):
        one = self.policy("shape main dev 1 1100 any", "pass main if true")
        other = self.policy("shape main dev 1 1100 any", "pass dev if true")
        self.assertTrue(same(parting(one, other), []))
        self.assertIs(is_alike(one, other), False)
        self.assertTrue(same(parting(one, self.policy("shape main dev 1 1100 any", "pass main if not(true)")), []))

    def test_a_third_branch(self):
        first = "shape main dev zoo 1 1100 newest"
        rows = ["make zoo 0 if true", "hear dev zoo if true", "merge main dev if true", "pass dev if dev gone"]
        one = self.policy(first, *rows)
        other = self.policy(first, *rows, "merge main zoo if main gone")
        self.assertEqual(parting(one, other), [("make", "zoo", 0), ("hear", "dev", "zoo"), ("pass", "dev"),
                                               ("merge", "main", "dev")])
        self.assertIsNone(parting(one, self.policy(first, *rows, "mean zoo in if zoo quarrel")))
        self.assertIsNone(parting(one, self.policy(first, *rows[::-1], *rows)))

    def test_second_places(self):
        first = "shape main dev 2 1100 newest"
        rows = ["make dev 0 if true", "pick main dev 0 1 if true", "merge main dev if true"]
        one = self.policy(first, *rows)
        other = self.policy(first, *rows, "drop main 0 if main twice")
        found = parting(one, other)
        self.assertEqual(found[0], ("make", "dev", 0))
        self.assertEqual(sorted(found[1:]), [("merge", "main", "dev"), ("pick", "main", "dev", 0, 1)])
        self.assertIsNone(parting(one, self.policy(first, *rows, "drop main 0 if dev twice")))

    def test_where_the_change_stood_is_not_shown(self):
        rows = ["make main 0 if true", "drop main 0 if true"]
        one = self.policy("shape main dev 1 1100 any", *rows)
        other = self.policy("shape main dev 1 1100 any", *rows, "restore main 0 if true")
        self.assertEqual(parting(one, other), [("make", "main", 0), ("drop", "main", 0)])
        self.assertIsNone(parting(one, self.policy("shape main dev 1 1100 any", *rows, "restore main 0 if main in")))


class LateLines(Checks):
    """Policies that differ in one late line, possible in one situation alone."""

    def late(self, seed, shapes, count):
        """Cases with a line more, possible in one moment alone that comes late."""
        found = []
        draw = Draw(seed)
        for case in drawn_cases(seed, shapes, 200, least=10):
            names = list(case.shape.branches)
            for tree in [trees.drawn(draw, names, 8) for _ in range(30)]:
                truths = case.plain.truths(tree)
                number = truths.index(True) if truths.count(True) == 1 else 0
                if len(case.plain.histories[number]) < 3 or len(case.lines) == 12:
                    continue
                store = case.plain.plains[number]
                deeds = [deed for deed in all_deeds(case.shape)
                         if store.refusal(deed) == "" and deed not in plain_deeds(case.lines, store)]
                found.append((case, number, (draw.one_of(deeds), tree)))
                break
            if len(found) == count:
                break
        return found

    def test_parting(self):
        found = self.late(57, PAIRS, 16) + self.late(58, TRIPLES, 6)
        self.assertGreater(len(found), 15)
        for case, number, line in found:
            at = number % (len(case.lines) + 1)
            lines = case.lines[:at] + [line] + case.lines[at:]
            length = self.check(case.lines, lines, (case.shape, case.shape))
            self.assertEqual(length, len(case.plain.histories[number]))
            self.assertIsNone(self.check(lines, lines, (case.shape, case.shape)))

    def test_mending(self):
        for case, number, (deed, tree) in self.late(59, PAIRS, 16):
            repair = case.lines[:2] + [(deed, tree)]
            try:
                wide = PlainNet(repair, case.plain.plains, 200)
            except Overflow:
                continue
            goal = ("not", right_tree(case.shape)) if number % 2 else tree
            mending = Mending(Net(case.policy), made_policy(case.shape, repair),
                              goal=Condition(trees.written(goal)))
            truths = wide.truths(goal)
            plans = [wide.plan(at, truths) for at in range(len(case.plain.plains))]
            moments = Net(case.policy).moments()
            self.assertEqual([mending.plan(moment) for moment in moments], plans)
            self.assertEqual([mending.need(moment) for moment in moments],
                             [None if plan is None else len(plan) for plan in plans])
            self.assertEqual(mending.hopeless(), [moments[at] for at, plan in enumerate(plans) if plan is None])
            self.assertEqual(mending.worst(), None if None in plans else max(map(len, plans)))
            for moment in moments:
                self.assertIs(mending.why(moment).holds(made_policy(case.shape, repair)), True)

    def test_one_line_that_mends_one_moment(self):
        first = "shape main dev 1 1100 any"
        rows = ["make dev 0 if true", "merge main dev if true", "drop main 0 if true", "hear dev main if true",
                "mean dev in if dev back", "pass dev if true"]
        net = Net(known.read(first, *rows))
        late = "all(main gone, main holds dev)"
        gone = net.policy.played(0, 1, 2, 3, 4, 5, 1)
        mending = Mending(net, known.read(first, f"restore main 0 if {late}"))
        self.assertEqual((mending.need(gone), mending.plan(gone), mending.worst()), (1, [0], None))
        self.assertNotIn(gone, mending.hopeless())
        self.assertIn(net.policy.played(0, 1, 2, 3), mending.hopeless())
        one = known.read(first, *rows)
        other = known.read(first, *rows, f"restore main 0 if {late}")
        self.assertEqual(len(parting(one, other)), 7)
        self.assertIs(is_alike(one, other), False)


class WrongShapes(unittest.TestCase):
    def test_one_thing_exchanged(self):
        base = Shape("main", "dev")
        alike = [base.changed(table=table) for table in TABLES] + [base.changed(bases=word) for word in BASES]
        others = [Shape("dev", "main"), Shape("main", "zoo"), Shape("main", "dev", "zoo"),
                  Shape("main", "dev", places=2)]
        for shape in [base] + alike + others:
            for other in [base] + alike + others:
                one = Policy(shape, [(("pass", shape.branches[0]), Condition("true"))])
                two = Policy(other, [(("pass", other.branches[0]), Condition("true"))])
                if shape.branches == other.branches and shape.places == other.places:
                    self.assertIsNone(parting(one, two))
                    self.assertIs(is_alike(one, two), True)
                else:
                    self.refuse(one, two)

    def refuse(self, one, other):
        for call in (parting, is_alike):
            with self.assertRaises(WrongShape) as caught:
                call(one, other)
            self.assertEqual(caught.exception.code, "WrongShape")

    def test_wrong_shapes_come_first(self):
        for shape in [Shape("main", "zoo", "dev"), Shape("main", "dev", "zoo", places=2), Shape("main", "dev")]:
            self.refuse(known.CROWDED, Policy(shape, [(("pass", "main"), Condition("true"))]))
            self.refuse(Policy(shape, [(("pass", "main"), Condition("true"))]), known.CROWDED)


class TooManyPairs(unittest.TestCase):
    def refuse(self, one, other):
        for call in (parting, is_alike):
            with self.assertRaises(TooMany) as caught:
                call(one, other)
            self.assertTrue(same(caught.exception.most, 2000))
            self.assertEqual(caught.exception.code, "TooMany")

    def test_the_bound(self):
        self.assertIsNone(parting(known.FULL, known.FULL))
        self.refuse(known.OVER, known.OVER)

    def test_a_ring_of_words(self):
        self.refuse(known.RING, known.RING)
        with self.assertRaises(TooMany) as caught:
            Net(known.RING)
        self.assertTrue(same(caught.exception.most, 2000))
        for goal in (None, Condition("true"), Condition("not(true)")):
            with self.assertRaises(TooMany) as caught:
                Mending(Net(known.read(known.RING.shape.text, "pass main if true")), known.RING, goal=goal)
            self.assertTrue(same(caught.exception.most, 2000))
        timed = Policy(known.RING.shape.changed(bases="newest"), known.RING.lines())
        self.refuse(known.RING, timed)

    def test_policies_that_part_early(self):
        other = Policy(known.RING.shape, known.RING.lines()[:-1])
        self.assertTrue(same(parting(known.RING, other), []))
        self.assertIs(is_alike(known.RING, other), False)

    def test_more_pairs_than_moments(self):
        timed = known.ORDERS
        plain = Policy(timed.shape.changed(bases="any"), timed.lines())
        self.assertEqual((len(Net(timed)), len(Net(plain))), (16, 8))
        self.assertIsNone(parting(timed, plain))
        self.assertIsNone(parting(plain, timed))
        self.assertEqual(Moment(plain.shape).key, Moment(timed.shape).key)


if __name__ == "__main__":
    unittest.main()
