"""Nets: the moments of policies in their order, their ways, lines that are never done, and too many moments."""

import unittest

import known
import trees
from histories import Draw, all_shapes
from plain_nets import Overflow, drawn_cases, made_policy, moment_behind, plain_net
from plain_stores import PlainStore
from samples import same
from stillmeant.conditions import Condition
from stillmeant.deeds import all_deeds
from stillmeant.errors import TooMany, UnknownMoment
from stillmeant.moments import Moment
from stillmeant.nets import Net
from stillmeant.policies import Policy
from stillmeant.shapes import Shape

PAIRS = [shape for shape in all_shapes() if len(shape.branches) == 2]
TRIPLES = [shape for shape in all_shapes() if len(shape.branches) == 3]


def state(net):
    """Everything that a net tells."""
    moments = net.moments()
    return ([moment.key for moment in moments], [net.way(moment) for moment in moments],
            [[(line, behind.key) for line, behind in net.ways(moment)] for moment in moments],
            net.idle(), len(net), repr(net), net.policy.text)


def check_net(case, net, drawn):
    """Checks everything that a net tells against the plain stores of the same lines."""
    plain = drawn.plain
    moments = net.moments()
    case.assertTrue(same([moment.key for moment in moments], [store.key for store in plain.plains]))
    case.assertTrue(all(moment.shape == drawn.shape for moment in moments))
    case.assertEqual(len(net), len(plain.plains))
    case.assertEqual(repr(net), f"Net({len(plain.plains)} moments)")
    case.assertEqual(net.policy, drawn.policy)
    for number, store in enumerate(plain.plains):
        moment = moment_behind(drawn.shape, store.log)
        case.assertEqual(moment, moments[number])
        case.assertIs(moment in net, True)
        case.assertTrue(same(net.way(moment), plain.histories[number]))
        ways = net.ways(moment)
        case.assertIsInstance(ways, list)
        found = [(line, behind.key) for line, behind in ways]
        case.assertTrue(same(found, plain.edges[number]))
        case.assertTrue(all(isinstance(pair, tuple) for pair in ways))
        case.assertEqual([behind for _, behind in ways], [moments[at] for _, at in plain.ways(number)])
    used = {line for edges in plain.edges.values() for line, _ in edges}
    case.assertTrue(same(net.idle(), [line for line in range(len(drawn.lines)) if line not in used]))


class Drawn(unittest.TestCase):
    def test_two_branches(self):
        cases = drawn_cases(3, PAIRS, 320)
        for case in cases:
            check_net(self, Net(case.policy), case)
        self.assertGreater(len([case for case in cases if len(case.plain.plains) > 25]), 20)
        self.assertGreater(len([case for case in cases if max(map(len, case.plain.histories)) > 5]), 20)

    def test_three_branches(self):
        for case in drawn_cases(4, TRIPLES, 60, least=6):
            check_net(self, Net(case.policy), case)

    def test_one_moment(self):
        for shape in PAIRS[::7]:
            for deed in all_deeds(shape):
                lines = [(deed, ("not", ("true",)))]
                net = Net(made_policy(shape, lines))
                self.assertEqual(net.moments(), [Moment(shape)])
                self.assertEqual((net.ways(Moment(shape)), net.way(Moment(shape)), net.idle()), ([], [], [0]))
                self.assertEqual((len(net), repr(net)), (1, "Net(1 moments)"))

    def test_a_line_that_leads_nowhere_else(self):
        net = Net(known.read("shape main dev 1 1100 any", "pass dev if true", "pass dev if true"))
        self.assertEqual(len(net), 2)
        first, second = net.moments()
        self.assertEqual(net.ways(first), [(0, second), (1, second)])
        self.assertEqual(net.ways(second), [(0, second), (1, second)])
        self.assertEqual((net.way(second), net.idle()), ([0], []))

    def test_the_order_of_the_ways_counts(self):
        for seed, case in enumerate(drawn_cases(5, PAIRS, 40, least=10)):
            net = Net(case.policy)
            ways = [net.way(moment) for moment in net.moments()]
            self.assertEqual(ways, sorted(ways, key=lambda way: (len(way), way)))
            for moment, way in zip(net.moments(), ways):
                self.assertEqual(case.policy.played(*way), moment)

    def test_a_way_is_the_least_of_all_histories(self):
        for case in drawn_cases(6, PAIRS, 25, many=5, least=6, most=20):
            net = Net(case.policy)
            least = {}
            level = [[]]
            for _ in range(5):
                for history in sorted(level):
                    least.setdefault(case.policy.played(*history).key, history)
                level = [history + [line] for history in level
                         for line in case.policy.possible(case.policy.played(*history))][:600]
            for moment in net.moments():
                if len(net.way(moment)) < 4 and moment.key in least:
                    self.assertEqual(net.way(moment), least[moment.key])

    def test_most(self):
        self.assertTrue(same(Net.MOST, 2000))
        self.assertEqual(Net(known.FLOW).MOST, 2000)

    def test_arguments_by_name(self):
        net = Net(policy=known.FLOW)
        moment = net.moments()[1]
        self.assertEqual(state(net), state(Net(known.FLOW)))
        self.assertEqual((net.ways(moment=moment), net.way(moment=moment)), (net.ways(moment), [0]))

    def test_returned_lists_are_new(self):
        net = Net(known.FLOW)
        before = state(net)
        moment = net.moments()[1]
        for ask in [net.moments, net.idle, lambda: net.ways(moment), lambda: net.way(moment)]:
            found = ask()
            self.assertIsInstance(found, list)
            found.reverse()
            found.append(None)
            self.assertEqual(state(net), before)

    def test_the_policy_is_kept(self):
        policy = known.FLOW
        self.assertIs(Net(policy).policy, policy)


class Idle(unittest.TestCase):
    def test_lines_that_can_never_be_done(self):
        for seed, case in enumerate(drawn_cases(7, PAIRS, 60, many=5)):
            draw = Draw(seed)
            net = Net(case.policy)
            lines = list(case.lines)
            for _ in range(1 + draw.below(4)):
                at = draw.below(len(lines) + 1)
                deed = draw.one_of(list(all_deeds(case.shape)))
                dead = draw.one_of([("not", ("true",)), ("all", (("told", case.shape.branches[0], "in"),
                                                                 ("not", ("told", case.shape.branches[0], "in"))))])
                lines.insert(at, (deed, dead))
            wider = Net(made_policy(case.shape, lines))
            self.assertEqual(wider.moments(), net.moments())
            self.assertEqual(wider.idle(), [at for at, line in enumerate(lines) if not self.is_done(case, line)])
            left = made_policy(case.shape, lines).without(*wider.idle())
            self.assertEqual(Net(left).moments(), net.moments())
            self.assertEqual(Net(left).idle(), [])

    def is_done(self, case, line):
        """Whether a line is possible behind some history."""
        deed, tree = line
        return any(trees.is_true(tree, store) and store.refusal(deed) == "" for store in case.plain.plains)

    def test_deeds_that_are_always_refused(self):
        policy = known.read("shape main dev 1 1100 newest", "drop main 0 if true", "pass dev if true",
                            "restore main 0 if true", "pick dev main 0 0 if true", "squash dev main if true")
        net = Net(policy)
        self.assertEqual((net.idle(), len(net)), ([0, 2, 3, 4], 2))
        self.assertEqual(Net(policy.without(*net.idle())).moments(), net.moments())

    def test_a_line_that_comes_late(self):
        policy = known.read("shape main dev 1 1100 newest", "restore dev 0 if true", "drop dev 0 if true",
                            "make dev 0 if true", "pass main if dev gone")
        self.assertEqual(Net(policy).idle(), [3])
        self.assertEqual(Net(policy.without(2)).idle(), [0, 1, 2])


class TooManyMoments(unittest.TestCase):
    def refuse(self, policy):
        with self.assertRaises(TooMany) as caught:
            Net(policy)
        self.assertTrue(same(caught.exception.most, 2000))
        self.assertEqual(caught.exception.code, "TooMany")

    def test_all_merges(self):
        for bases in Shape.BASES:
            shape = known.CROWDED.shape.changed(bases=bases)
            self.refuse(Policy(shape, known.CROWDED.lines()))
            self.refuse(Policy(shape, known.CROWDED.lines()[::-1]))

    def test_the_bound(self):
        self.assertEqual(len(Net(known.FULL)), 2000)
        self.assertEqual(repr(Net(known.FULL)), "Net(2000 moments)")
        self.refuse(known.OVER)
        lines = known.OVER.lines()
        for at in range(len(lines)):
            self.refuse(Policy(known.OVER.shape, lines[at:] + lines[:at]))

    def test_one_moment_more_than_the_plain_stores_allow(self):
        lines = [(deed, condition.tree) for deed, condition in known.OVER.lines()]
        self.assertEqual(len(plain_net(known.OVER.shape, lines, 2001).plains), 2001)
        with self.assertRaises(Overflow):
            plain_net(known.OVER.shape, lines, 2000)

    def test_a_net_of_many_moments(self):
        lines = [(deed, condition.tree) for deed, condition in known.FULL.lines()]
        plain = plain_net(known.FULL.shape, lines)
        net = Net(known.FULL)
        self.assertEqual([moment.key for moment in net.moments()], [store.key for store in plain.plains])
        self.assertEqual([net.way(moment) for moment in net.moments()], plain.histories)


class StrangeMoments(unittest.TestCase):
    def refuse(self, net, moment):
        before = state(net)
        self.assertIs(moment in net, False)
        self.assertIs(moment not in net, True)
        for ask in (net.ways, net.way):
            with self.assertRaises(UnknownMoment) as caught:
                ask(moment)
            self.assertEqual(caught.exception.code, "UnknownMoment")
        self.assertEqual(state(net), before)

    def test_moments_of_other_shapes(self):
        shapes = [Shape("main", "dev"), Shape("main", "dev", places=2), Shape("main", "dev", table="0110"),
                  Shape("main", "dev", bases="any"), Shape("dev", "main"), Shape("main", "dev", "zoo"),
                  Shape("main", "zoo")]
        for shape in shapes:
            branch = shape.branches[0]
            net = Net(Policy(shape, [(("pass", branch), Condition("true"))]))
            for other in shapes:
                for deeds in ([], [("pass", other.branches[0])]):
                    moment = moment_behind(other, deeds)
                    if other == shape:
                        self.assertIs(moment in net, True)
                    else:
                        self.refuse(net, moment)

    def test_moments_that_are_not_in_the_net(self):
        for seed, case in enumerate(drawn_cases(8, PAIRS, 40, many=4, most=20)):
            net = Net(case.policy)
            keys = [store.key for store in case.plain.plains]
            draw = Draw(seed)
            strange = 0
            for store in case.plain.plains:
                for deed in all_deeds(case.shape):
                    if store.refusal(deed) == "" and draw.below(4) == 0:
                        strange += self.check_moment(net, keys, store.log + [deed])
            self.assertGreater(strange, 0)

    def check_moment(self, net, keys, deeds):
        moment = moment_behind(net.policy.shape, deeds)
        if moment.key in keys:
            self.assertIs(moment in net, True)
            self.assertEqual(net.policy.played(*net.way(moment)), moment)
            return 0
        self.refuse(net, moment)
        return 1

    def test_the_same_moment_by_other_deeds(self):
        net = Net(known.FLOW)
        shape = known.FLOW.shape
        one = moment_behind(shape, [("mean", "dev", "in"), ("make", "dev", 0)])
        self.assertIs(one in net, True)
        self.assertEqual(net.way(one), [0])
        self.refuse(net, moment_behind(shape, [("mean", "dev", "in")]))
        self.assertEqual(PlainStore(shape).key, net.moments()[0].key)


if __name__ == "__main__":
    unittest.main()
