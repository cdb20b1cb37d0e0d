"""Moments: what is told behind histories, refusals, bases, keys, and what equal moments have in common."""

import unittest

from histories import TABLES, Draw, all_shapes, check_links, check_moment, check_refusals, next_deed, plain_behind
from histories import plain_shapes, scattered
from plain_stores import PlainStore
from samples import ANY_VALUES, others, same
from stillmeant.deeds import all_deeds, is_deed
from stillmeant.errors import InvalidDeed, Refused, UnknownBranch
from stillmeant.moments import Moment
from stillmeant.shapes import Shape

# Two branches merge each other's first version crosswise, with the help of a third one that carries it.
CROSSED = [("make", "main", 0), ("make", "dev", 1), ("merge", "zoo", "dev"), ("merge", "dev", "main"),
           ("merge", "main", "zoo")]


def behind(shape, deeds):
    moment = Moment(shape)
    for deed in deeds:
        moment = moment.after(deed)
    return moment


def three(**more):
    return Shape("main", "dev", "zoo", places=2, **more)


class Told(unittest.TestCase):
    def test_all_shapes(self):
        for seed, shape in enumerate(all_shapes()):
            draw = Draw(seed)
            plain = PlainStore(shape)
            moment = Moment(shape)
            elder = []
            for _ in range(16):
                deed = next_deed(draw, plain)
                elder.append((moment, plain.twin()))
                plain.do(deed)
                moment = moment.after(deed)
                check_moment(self, moment, plain)
                check_links(self, moment, plain)
                self.assertTrue(same(moment.key, plain.key), plain.log)
            for moment, plain in elder[::5]:
                check_moment(self, moment, plain)
                check_links(self, moment, plain)
                self.assertTrue(same(moment.key, plain.key))

    def test_long_histories(self):
        for seed, shape in enumerate(plain_shapes()):
            deeds, plain = scattered(shape, seed, 80)
            moment = behind(shape, deeds)
            check_moment(self, moment, plain)
            check_links(self, moment, plain)
            self.assertTrue(same(moment.key, plain.key))

    def walk(self, moment, plain, depth):
        """Checks the moments behind all lists of so many deeds."""
        check_moment(self, moment, plain)
        self.assertTrue(same(moment.key, plain.key), plain.log)
        if depth > 0:
            for deed in all_deeds(plain.shape):
                if plain.refusal(deed) == "":
                    further = plain.twin()
                    further.do(deed)
                    self.walk(moment.after(deed), further, depth - 1)

    def test_all_short_histories(self):
        for shape, depth in [(Shape("main", "dev"), 4), (Shape("main", "dev", places=2, table="0110"), 3),
                             (Shape("zoo", "main", "dev", bases="any"), 2), (three(bases="refuse"), 2)]:
            self.walk(Moment(shape), PlainStore(shape), depth)

    def test_each_word_in_its_order(self):
        shape = Shape("main", "dev", places=2)
        both = [("make", "main", 0), ("make", "main", 1)]
        quarrel = [("mean", "dev", "out"), ("hear", "main", "dev")]
        for deeds, meaning, told in [
                ([], "none", "right"),
                ([("mean", "main", "in")], "in", "gone"),
                ([("mean", "main", "out")], "out", "right"),
                ([("make", "main", 0)], "in", "right"),
                ([("make", "main", 0), ("mean", "main", "out")], "out", "back"),
                ([("make", "main", 0), ("drop", "main", 0)], "out", "right"),
                ([("mean", "main", "in")] + quarrel, "quarrel", "quarrel"),
                (both[:1] + quarrel, "quarrel", "quarrel"),
                (both, "in", "twice"),
                (both + [("mean", "main", "out")], "out", "twice"),
                (both + quarrel, "quarrel", "twice"),
                (both + [("drop", "main", 1)], "in", "right"),
                (both + [("drop", "main", 0), ("drop", "main", 1)], "out", "right")]:
            moment = behind(shape, deeds)
            self.assertEqual((moment.meaning("main"), moment.told("main")), (meaning, told), deeds)

    def test_a_drop_that_leaves_a_place_says_in(self):
        shape = Shape("main", "dev", places=2)
        moment = behind(shape, [("make", "dev", 0), ("make", "dev", 1), ("mean", "dev", "out")])
        self.assertEqual(moment.meaning("dev"), "out")
        self.assertEqual(moment.after(("drop", "dev", 0)).meaning("dev"), "in")

    def test_arguments_by_name(self):
        moment = Moment(shape=Shape("main", "dev")).after(deed=("make", "main", 0))
        self.assertEqual(moment.contents(branch="main"), (0,))
        self.assertEqual(moment.meaning(branch="main"), "in")
        self.assertEqual(moment.told(branch="dev"), "right")
        self.assertEqual(moment.stood(branch="main"), (0,))
        self.assertIs(moment.holds(branch="main", other="dev"), True)
        self.assertEqual(moment.bases_of(branch="main", other="dev"), [()])
        self.assertEqual(moment.refusal(deed=("make", "main", 0)), "there")


class Stood(unittest.TestCase):
    def test_only_a_merge_brings_the_past(self):
        shape = three()
        dropped = [("make", "dev", 1), ("drop", "dev", 1)]
        self.assertEqual(behind(shape, dropped).stood("dev"), (1,))
        self.assertEqual(behind(shape, dropped + [("merge", "main", "dev")]).stood("main"), (1,))
        self.assertEqual(behind(shape, dropped + [("squash", "main", "dev")]).stood("main"), ())
        self.assertEqual(behind(shape, dropped[:1] + [("squash", "main", "dev")]).stood("main"), (1,))
        picked = behind(shape, dropped[:1] + [("pick", "main", "dev", 1, 0)])
        self.assertEqual((picked.stood("main"), picked.contents("main")), ((0,), (0,)))
        self.assertEqual(behind(shape, dropped + [("hear", "main", "dev")]).stood("main"), ())

    def test_places_are_ascending(self):
        moment = behind(three(), [("make", "dev", 1), ("make", "dev", 0)])
        self.assertEqual((moment.stood("dev"), moment.contents("dev")), ((0, 1), (0, 1)))
        self.assertEqual(moment.after(("drop", "dev", 0)).stood("dev"), (0, 1))


class Refusals(unittest.TestCase):
    def test_all_shapes(self):
        for seed, shape in enumerate(all_shapes()):
            draw = Draw(seed + 1000)
            plain = PlainStore(shape)
            moment = Moment(shape)
            for at in range(13):
                if at % 3 == 0:
                    check_refusals(self, moment, plain)
                deed = next_deed(draw, plain)
                plain.do(deed)
                moment = moment.after(deed)
            self.check_after(moment, plain)

    def check_after(self, moment, plain):
        """Checks that `after` does what `refusal` tells, for all deeds."""
        key = moment.key
        for deed in all_deeds(plain.shape):
            word = moment.refusal(deed)
            if word == "":
                further = plain.twin()
                further.do(deed)
                self.assertEqual(moment.after(deed).key, further.key)
            else:
                with self.assertRaises(Refused) as caught:
                    moment.after(deed)
                self.assertEqual(caught.exception.word, word)
        self.assertEqual(moment.key, key)

    def test_each_word(self):
        shape = Shape("main", "dev", places=2)
        made = behind(shape, [("make", "main", 0)])
        dropped = made.after(("drop", "main", 0))
        for moment, deed, word in [
                (made, ("make", "main", 0), "there"), (made, ("restore", "main", 0), "there"),
                (made, ("make", "main", 1), ""), (made, ("make", "dev", 0), ""),
                (dropped, ("make", "main", 0), "known"), (dropped, ("restore", "main", 0), ""),
                (dropped, ("restore", "main", 1), "new"), (made, ("restore", "dev", 0), "new"),
                (made, ("drop", "main", 1), "missing"), (made, ("drop", "dev", 0), "missing"),
                (made, ("drop", "main", 0), ""), (made, ("pick", "dev", "main", 0, 1), ""),
                (made, ("pick", "dev", "main", 1, 1), "missing"), (made, ("pick", "main", "dev", 0, 0), "missing"),
                (made.after(("make", "dev", 1)), ("pick", "dev", "main", 0, 1), "there"),
                (made.after(("make", "dev", 1)), ("pick", "dev", "main", 1, 1), "missing"),
                (dropped, ("pick", "dev", "main", 0, 0), "missing"),
                (made, ("merge", "main", "dev"), "held"), (made, ("squash", "main", "dev"), "held"),
                (made, ("merge", "dev", "main"), ""), (made, ("squash", "dev", "main"), ""),
                (made.after(("merge", "dev", "main")), ("merge", "dev", "main"), "held"),
                (made.after(("merge", "dev", "main")), ("squash", "dev", "main"), "held"),
                (made.after(("merge", "dev", "main")), ("merge", "main", "dev"), ""),
                (made.after(("squash", "dev", "main")), ("squash", "dev", "main"), ""),
                (made, ("pass", "dev"), ""), (made, ("hear", "dev", "main"), ""), (made, ("mean", "dev", "in"), "")]:
            self.assertEqual(moment.refusal(deed), word, deed)
        picked = made.after(("pick", "dev", "main", 0, 1)).after(("drop", "dev", 1))
        self.assertEqual(picked.refusal(("make", "dev", 1)), "known")
        self.assertEqual(picked.refusal(("make", "dev", 0)), "")

    def test_crossed(self):
        for bases in Shape.BASES:
            moment = behind(three(bases=bases), CROSSED)
            word = "crossed" if bases == "refuse" else ""
            for deed in [("merge", "main", "dev"), ("merge", "dev", "main"), ("squash", "main", "dev")]:
                self.assertEqual(moment.refusal(deed), word)
            self.assertEqual(moment.refusal(("merge", "main", "zoo")), "held")

    def test_held_goes_ahead_of_crossed(self):
        moment = behind(three(bases="refuse"), CROSSED)
        self.assertEqual(len(moment.bases_of("main", "dev")), 2)
        self.assertIs(moment.holds("main", "zoo"), True)
        for deeds, plain in [scattered(three(bases="refuse"), seed, 40) for seed in range(12)]:
            check_refusals(self, behind(plain.shape, deeds), plain)

    def test_the_order_of_deeds(self):
        first = Moment(Shape("main", "dev"))
        self.assertEqual(first.deeds(), [
            ("make", "main", 0), ("make", "dev", 0), ("pass", "main"), ("pass", "dev"),
            ("hear", "main", "dev"), ("hear", "dev", "main"), ("mean", "main", "in"), ("mean", "main", "out"),
            ("mean", "dev", "in"), ("mean", "dev", "out")])
        found = first.deeds()
        found.clear()
        self.assertEqual(len(first.deeds()), 10)

    def test_values_that_are_no_deeds(self):
        for shape in (Shape("main", "dev"), Shape("main", "dev", places=2), three()):
            moment = behind(shape, [("make", "main", 0)])
            values = ANY_VALUES + [list(deed) for deed in all_deeds(shape)]
            values += [tuple(bool(item) if isinstance(item, int) else item for item in deed)
                       for deed in all_deeds(three())]
            values += list(all_deeds(three())) + [("make", "main", 2), ("merge", "main", "main"), ("pass", "main", 0),
                                                  ("mean", "main", "none"), ("make", "main"), ("undo",), "pass main"]
            for value in values:
                if not is_deed(shape, value):
                    self.refuse(moment, value)

    def refuse(self, moment, value):
        for call in (moment.refusal, moment.after):
            with self.assertRaises(InvalidDeed):
                call(value)


class Bases(unittest.TestCase):
    def check_base(self, moment, base):
        """Checks merges and squashes of dev into main, with all contents of main."""
        shape = moment.shape
        theirs = moment.contents("dev")
        for place in moment.contents("main"):
            moment = moment.after(("drop", "main", place))
        for ours in [(), (0,), (1,), (0, 1)]:
            start = moment
            for place in ours:
                start = start.after(("restore", "main", place))
            for word in ("merge", "squash"):
                contents = start.after((word, "main", "dev")).contents("main")
                self.assertTrue(same(contents, shape.merged(base, ours, theirs)))

    def test_crosswise_with_each_word(self):
        turned = [CROSSED[1], CROSSED[0]] + CROSSED[2:]
        for table in TABLES:
            for bases, base in [("newest", (1,)), ("eldest", (0,)), ("any", (0, 1)), ("every", ())]:
                shape = three(bases=bases, table=table[:1] + "1" + table[2:])
                for deeds in (CROSSED, turned):
                    moment = behind(shape, deeds)
                    self.assertEqual(moment.bases_of("main", "dev"), [(0,), (1,)])
                    self.assertEqual(moment.bases_of("dev", "main"), [(0,), (1,)])
                    if deeds == turned and shape.timed:
                        base = (1 - base[0],)
                    self.check_base(moment, base)

    def test_crosswise_histories(self):
        crossed = 0
        for table in ("1100", "0110", "1001"):
            for bases in ("newest", "eldest", "any", "every"):
                for seed in range(12):
                    deeds, plain = scattered(three(bases=bases, table=table), seed, seed, CROSSED)
                    crossed += self.check_merges(behind(plain.shape, deeds), plain)
        self.assertGreater(crossed, 50)

    def check_merges(self, moment, plain):
        crossed = 0
        for branch in plain.shape.branches:
            for other in plain.shape.branches:
                self.assertTrue(same(moment.bases_of(branch, other), plain.bases_of(branch, other)))
                if branch != other and not plain.holds(branch, other):
                    crossed += len(plain.common_tops(branch, other)) > 1
                    for word in ("merge", "squash"):
                        contents = moment.after((word, branch, other)).contents(branch)
                        self.assertTrue(same(contents, plain.merged(branch, other)), plain.log)
        return crossed

    def test_one_branch_twice(self):
        shape = three()
        first = Moment(shape)
        moment = behind(shape, CROSSED[:2])
        for branch, head in [("main", (0,)), ("dev", (1,)), ("zoo", ())]:
            self.assertIs(first.holds(branch, branch), True)
            self.assertEqual(first.bases_of(branch, branch), [()])
            self.assertIs(moment.holds(branch, branch), True)
            self.assertEqual(moment.bases_of(branch, branch), [head])
        self.assertEqual(behind(shape, CROSSED).bases_of("main", "main"), [(0, 1)])

    def test_the_list_is_new(self):
        moment = behind(three(), CROSSED)
        moment.bases_of("main", "dev").clear()
        self.assertEqual(moment.bases_of("main", "dev"), [(0,), (1,)])

    def test_a_squash_is_no_merge_of_versions(self):
        shape = Shape("main", "dev")
        for word, holds, bases in [("merge", True, [(0,)]), ("squash", False, [()])]:
            moment = behind(shape, [("make", "dev", 0), (word, "main", "dev")])
            self.assertEqual(moment.contents("main"), (0,))
            self.assertIs(moment.holds("main", "dev"), holds)
            self.assertEqual(moment.bases_of("main", "dev"), bases)


class WrongBranches(unittest.TestCase):
    def test_one_wrong_branch(self):
        for moment in (Moment(Shape("main", "dev")), behind(three(), CROSSED)):
            for value in others(*moment.shape.branches) + ["zap", "Main", "abcdefghi"]:
                for method in (moment.contents, moment.meaning, moment.told, moment.stood):
                    self.refuse(value, method, value)

    def test_the_first_of_two_wrong_branches(self):
        for moment in (Moment(Shape("main", "dev")), behind(three(), CROSSED)):
            for value in others(*moment.shape.branches):
                for method in (moment.holds, moment.bases_of):
                    self.refuse(value, method, value, "main")
                    self.refuse(value, method, "dev", value)
                    self.refuse(value, method, value, "other")
                    self.refuse(value, method, value, value)

    def refuse(self, value, call, *values):
        with self.assertRaises(UnknownBranch) as caught:
            call(*values)
        self.assertIs(caught.exception.name, value)


class First(unittest.TestCase):
    def test_the_first_moment(self):
        for shape in all_shapes():
            moment = Moment(shape)
            many = len(shape.branches)
            self.assertEqual(moment.shape, shape)
            empty = (((0,) * many,) * many, ((),) * many, ())
            self.assertTrue(same(moment.key, (empty, empty, ((),) * many)))
            self.assertEqual(repr(moment), f"Moment({', '.join(shape.branches)})")
            for branch in shape.branches:
                self.assertEqual((moment.contents(branch), moment.stood(branch)), ((), ()))
                self.assertEqual((moment.meaning(branch), moment.told(branch)), ("none", "right"))
                for other in shape.branches:
                    self.assertIs(moment.holds(branch, other), True)
                    self.assertEqual(moment.bases_of(branch, other), [()])


class Equality(unittest.TestCase):
    def test_a_key(self):
        shape = Shape("main", "dev", places=2)
        moment = behind(shape, [("make", "dev", 1), ("make", "dev", 0), ("merge", "main", "dev")])
        versions = (((1, 1), (0, 1)), ((("01", (1, 1)),), (("01", (0, 1)),)), ((1, 0), (0, 0)))
        words = (((0, 1), (0, 1)), ((), (("in", (0, 1)),)), ())
        self.assertTrue(same(moment.key, (versions, words, ((0, 1), (0, 1)))))
        untimed = behind(Shape("main", "dev", bases="any"), [("make", "main", 0), ("drop", "main", 0)])
        versions = (((1, 0), (0, 0)), ((("", (1, 0)),), ()), ())
        words = (((1, 0), (0, 0)), ((("out", (1, 0)),), ()), ())
        self.assertTrue(same(untimed.key, (versions, words, ((0,), ()))))
        self.assertEqual(repr(untimed), "Moment(main, dev)")

    def test_equal_if_the_keys_are(self):
        equal = 0
        for shape in plain_shapes():
            found = [scattered(shape, seed, 1 + seed % 4) for seed in range(24)]
            made = [(behind(shape, deeds), plain) for deeds, plain in found]
            for one, left in made:
                for other, right in made:
                    self.assertIs(one == other, left.key == right.key)
                    self.assertIs(one != other, left.key != right.key)
                    equal += left.log != right.log and left.key == right.key
        self.assertGreater(equal, 100)

    def test_moments_of_other_shapes(self):
        shapes = list(all_shapes())[::9] + [Shape("main", "dev"), Shape("dev", "main"), Shape("main", "dee")]
        deeds = [("make", "main", 0), ("pass", "main")]
        for one in shapes:
            for other in shapes:
                self.assertIs(Moment(one) == Moment(other), one.text == other.text)
                self.assertIs(behind(one, deeds) == behind(other, deeds), one.text == other.text)
                self.assertIs(behind(one, deeds) == Moment(other), False)

    def test_where_the_change_stood_counts(self):
        shape = Shape("main", "dev")
        one = behind(shape, [("make", "main", 0), ("drop", "main", 0), ("mean", "main", "out")])
        other = behind(shape, [("pass", "main"), ("mean", "main", "out")])
        self.assertEqual(one.key[:2], other.key[:2])
        self.assertFalse(one == other)

    def test_a_moment_equals_nothing_else(self):
        for moment in (Moment(Shape("main", "dev")), behind(three(), CROSSED)):
            for value in ANY_VALUES + [moment.key, repr(moment), moment.shape, object()]:
                self.assertIs(moment == value, False)
                self.assertIs(moment != value, True)


class EqualMoments(unittest.TestCase):
    """The fact of [12]: what is refused and told further on depends on the moment alone."""

    def pairs(self, shape, starts, depth):
        """Pairs of plain stores with equal moments, whose histories differ."""
        rows = [(behind(shape, start), plain_behind(shape, start)) for start in starts]
        first = {}
        for _ in range(depth):
            following = []
            for moment, plain in rows:
                for deed in moment.deeds():
                    further = plain.twin()
                    further.do(deed)
                    following.append((moment.after(deed), further))
            rows = following
            for at, (moment, plain) in enumerate(rows):
                if moment.key not in first:
                    first[moment.key] = (moment, plain)
                elif at % 7 == 0:
                    self.assertTrue(first[moment.key][0] == moment)
                    yield first[moment.key][1], plain

    def check_pair(self, one, other, depth):
        for branch in one.shape.branches:
            self.assertEqual(one.contents(branch), other.contents(branch))
            self.assertEqual(one.meaning(branch), other.meaning(branch))
            self.assertEqual(one.told(branch), other.told(branch))
        right = [deed for deed in all_deeds(one.shape) if one.refusal(deed) == ""]
        for deed in all_deeds(one.shape):
            self.assertEqual(one.refusal(deed), other.refusal(deed))
        for deed in right if depth > 0 else []:
            left, beside = one.twin(), other.twin()
            left.do(deed)
            beside.do(deed)
            self.check_pair(left, beside, depth - 1)

    def test_short_histories(self):
        many = 0
        for shape, depth in [(Shape("main", "dev"), 3), (Shape("main", "dev", bases="any"), 3)]:
            for one, other in self.pairs(shape, [[]], depth):
                many += 1
                self.check_pair(one, other, 1)
        self.assertGreater(many, 100)

    def test_crosswise_histories(self):
        many = 0
        for bases in Shape.BASES:
            for one, other in self.pairs(three(bases=bases), [CROSSED], 2):
                many += 1
                if many % 12 == 0:
                    self.check_pair(one, other, 1)
        self.assertGreater(many, 100)

    def test_passes_and_hearings_between(self):
        for bases in Shape.BASES:
            shape = Shape("main", "dev", bases=bases)
            short = [("make", "main", 0), ("hear", "dev", "main"), ("pass", "dev"), ("merge", "main", "dev")]
            long = [("pass", "dev"), ("make", "main", 0), ("pass", "dev"), ("hear", "dev", "main"), ("pass", "main"),
                    ("hear", "dev", "main"), ("pass", "main"), ("hear", "main", "dev"), ("pass", "dev"),
                    ("merge", "main", "dev")]
            self.assertTrue(behind(shape, short) == behind(shape, long))
            self.check_pair(plain_behind(shape, short), plain_behind(shape, long), 3)

    def test_moments_tell_the_same_behind_further_deeds(self):
        for seed, shape in enumerate(plain_shapes()):
            deeds, _ = scattered(shape, seed, 12)
            branch = shape.branches[seed % 2]
            # Words that were heard are heard once more, which changes nothing.
            other = shape.branches[1 - seed % 2]
            one = behind(shape, deeds + [("hear", branch, other)])
            twice = behind(shape, deeds + [("hear", branch, other), ("hear", branch, other)])
            self.assertTrue(one == twice)
            draw = Draw(seed)
            for _ in range(15):
                self.assertEqual(one.deeds(), twice.deeds())
                deed = draw.one_of(one.deeds())
                one = one.after(deed)
                twice = twice.after(deed)
                self.assertTrue(one == twice)
                for name in shape.branches:
                    self.assertEqual(one.told(name), twice.told(name))


if __name__ == "__main__":
    unittest.main()
