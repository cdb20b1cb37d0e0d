"""Stores: deeds done and undone, versions and words and who knows them, and everything that a store tells."""

import unittest

from histories import Draw, all_shapes, check_store, next_deed, plain_behind, plain_shapes, scattered
from plain_stores import PlainStore
from samples import ANY_VALUES, others, same
from stillmeant.deeds import all_deeds, is_deed
from stillmeant.errors import InvalidDeed, NothingLeft, Refused, UnknownBranch
from stillmeant.moments import Moment
from stillmeant.shapes import Shape
from stillmeant.stores import Store

MADE = [("make", "dev", 0), ("merge", "main", "dev"), ("drop", "main", 0), ("hear", "dev", "main"),
        ("mean", "dev", "in"), ("pass", "dev"), ("merge", "main", "dev")]


def filled(shape, deeds):
    store = Store(shape)
    store.do(*deeds)
    return store


def state(store):
    """Everything that a store tells."""
    branches = store.shape.branches
    return (store.log(), store.versions(), store.words(), len(store), repr(store), store.moment.key,
            [moment.key for moment in store.walk()],
            [(store.past(branch), store.heard(branch)) for branch in branches],
            [(store.told(branch), store.contents(branch), store.meaning(branch)) for branch in branches])


class Doing(unittest.TestCase):
    def test_one_by_one_in_all_shapes(self):
        for seed, shape in enumerate(all_shapes()):
            draw = Draw(seed)
            plain = PlainStore(shape)
            store = Store(shape)
            for at in range(18):
                if at % 3 == 0:
                    check_store(self, store, plain)
                deed = next_deed(draw, plain)
                plain.do(deed)
                self.assertIsNone(store.do(deed))
            check_store(self, store, plain)

    def test_several_at_once(self):
        for seed, shape in enumerate(plain_shapes()):
            deeds, plain = scattered(shape, seed, 30)
            check_store(self, filled(shape, deeds), plain)
            draw = Draw(seed)
            store = Store(shape)
            at = 0
            while at < len(deeds):
                many = draw.below(5)
                store.do(*deeds[at:at + many])
                at += many
                check_store(self, store, plain_behind(shape, deeds[:at]))

    def test_no_deeds(self):
        store = filled(Shape("main", "dev"), MADE)
        before = state(store)
        self.assertIsNone(store.do())
        self.assertEqual(state(store), before)

    def test_the_example_of_the_document(self):
        store = filled(Shape("main", "dev"), MADE)
        self.assertEqual(store.told("main"), "gone")
        self.assertEqual(store.told("dev"), "right")
        self.assertEqual(store.contents("main"), ())
        self.assertEqual(store.past("main"), [0, 1, 2, 3, 4])
        self.assertEqual(store.past("dev"), [0, 3])
        self.assertTrue(same(store.versions(), [("dev", (0,), ()), ("main", (0,), (0,)), ("main", (), (1,)),
                                                ("dev", (0,), (0,)), ("main", (), (2, 3))]))
        self.assertEqual(store.words(), [("dev", "in"), ("main", "out"), ("dev", "in")])
        self.assertEqual((store.heard("main"), store.heard("dev")), ([0, 1, 2], [0, 1, 2]))
        self.assertEqual(repr(store), "Store(7 deeds)")
        self.assertEqual((store.shape, len(store)), (Shape("main", "dev"), 7))

    def test_the_first_moment(self):
        for shape in all_shapes():
            store = Store(shape=shape)
            self.assertEqual(store.shape, shape)
            self.assertEqual(store.moment, Moment(shape))
            self.assertEqual(list(store.walk()), [Moment(shape)])
            self.assertEqual((store.log(), store.versions(), store.words()), ([], [], []))
            self.assertEqual((len(store), repr(store)), (0, "Store(0 deeds)"))
            for branch in shape.branches:
                self.assertEqual((store.past(branch), store.heard(branch)), ([], []))
                self.assertEqual((store.told(branch), store.contents(branch), store.meaning(branch)),
                                 ("right", (), "none"))

    def test_one_deed(self):
        self.assertEqual(repr(filled(Shape("main", "dev"), [("pass", "dev")])), "Store(1 deeds)")

    def test_parents_are_ascending(self):
        shape = Shape("main", "dev")
        deeds = [("pass", "dev"), ("pass", "main"), ("merge", "main", "dev"), ("merge", "dev", "main")]
        store = filled(shape, deeds)
        self.assertEqual([parents for _, _, parents in store.versions()], [(), (), (0, 1), (0, 2)])
        store = filled(shape, [("pass", "dev"), ("merge", "main", "dev")])
        self.assertEqual([parents for _, _, parents in store.versions()], [(), (0,)])

    def test_returned_lists_are_new(self):
        store = filled(Shape("main", "dev"), MADE)
        before = state(store)
        for ask in [store.log, store.versions, store.words, lambda: store.past("main"), lambda: store.heard("main")]:
            found = ask()
            self.assertIsInstance(found, list)
            found.clear()
            found.append(None)
        self.assertEqual(state(store), before)

    def test_elder_moments_stay(self):
        store = Store(Shape("main", "dev"))
        kept = []
        for deed in MADE:
            kept.append((store.moment, store.moment.key))
            store.do(deed)
        store.undo()
        for moment, key in kept:
            self.assertEqual(moment.key, key)


class Links(unittest.TestCase):
    """Versions and words are linked each in their own way."""

    def knows(self, store):
        return {branch: (store.past(branch), store.heard(branch)) for branch in store.shape.branches}

    def test_what_each_deed_adds(self):
        # On dev: versions 0 and 2, words 0 and 1 (it heard both); on main: version 1, word 1.
        start = [("make", "dev", 0), ("make", "main", 1), ("drop", "dev", 0)]
        for deed, main, version, word in [
                (("merge", "main", "dev"), ([0, 1, 2, 3], [0, 1, 2]), ("main", (1, 2)), None),
                (("squash", "main", "dev"), ([1, 3], [0, 1, 2]), ("main", (1,)), None),
                (("hear", "main", "dev"), ([1], [0, 1, 2]), None, None),
                (("pass", "main"), ([1, 3], [1]), ("main", (1,)), None),
                (("mean", "main", "out"), ([1], [1, 3]), None, ("main", "out")),
                (("make", "main", 0), ([1, 3], [1, 3]), ("main", (1,)), ("main", "in")),
                (("drop", "main", 1), ([1, 3], [1, 3]), ("main", (1,)), ("main", "out"))]:
            store = filled(Shape("main", "dev", places=2), start)
            self.assertEqual(self.knows(store), {"main": ([1], [1]), "dev": ([0, 2], [0, 2])})
            before = (store.versions(), store.words())
            store.do(deed)
            self.assertEqual(self.knows(store), {"main": main, "dev": ([0, 2], [0, 2])}, deed)
            behind = [(branch, parents) for branch, _, parents in store.versions()[len(before[0]):]]
            self.assertEqual(behind, [] if version is None else [version])
            self.assertEqual(store.words()[len(before[1]):], [] if word is None else [word])

    def test_a_pick_hears_and_says_but_does_not_merge(self):
        store = filled(Shape("main", "dev", places=2), [("make", "dev", 0), ("mean", "dev", "out")])
        store.do(("pick", "main", "dev", 0, 1))
        self.assertEqual(self.knows(store), {"main": ([1], [0, 1, 2]), "dev": ([0], [0, 1])})
        self.assertEqual(store.versions()[1:], [("main", (1,), ())])
        self.assertEqual(store.words()[2:], [("main", "in")])
        self.assertEqual((store.meaning("main"), store.meaning("dev")), ("in", "out"))

    def test_hearing_twice_and_at_second_hand(self):
        store = filled(Shape("a", "b", "c"), [("mean", "a", "in"), ("hear", "b", "a"), ("mean", "c", "out"),
                                              ("hear", "c", "b"), ("hear", "c", "b"), ("hear", "b", "c")])
        self.assertEqual([store.heard(branch) for branch in ("a", "b", "c")], [[0], [0, 1], [0, 1]])
        self.assertEqual([store.meaning(branch) for branch in ("a", "b", "c")], ["in", "quarrel", "quarrel"])
        self.assertEqual(store.versions(), [])

    def test_merging_at_second_hand(self):
        store = filled(Shape("a", "b", "c"), [("pass", "a"), ("merge", "b", "a"), ("pass", "a"), ("merge", "c", "b")])
        self.assertEqual([store.past(branch) for branch in ("a", "b", "c")], [[0, 2], [0, 1], [0, 1, 3]])
        self.assertEqual(store.versions()[3], ("c", (), (1,)))
        self.assertEqual([store.heard(branch) for branch in ("a", "b", "c")], [[], [], []])

    def test_ahead_of_and_behind_each_deed(self):
        for seed, shape in enumerate(plain_shapes()):
            deeds, plain = scattered(shape, seed, 10)
            for deed in all_deeds(shape):
                if plain.refusal(deed) == "":
                    store = filled(shape, deeds)
                    check_store(self, store, plain)
                    further = plain.twin()
                    further.do(deed)
                    store.do(deed)
                    check_store(self, store, further)


class Wrong(unittest.TestCase):
    def refuse(self, store, kind, deeds, word=None):
        before = state(store)
        with self.assertRaises(kind) as caught:
            store.do(*deeds)
        if word is not None:
            self.assertEqual(caught.exception.word, word)
        self.assertEqual(state(store), before)

    def first_refusal(self, plain, deeds):
        """The word of the first deed that is refused, or the empty string."""
        plain = plain.twin()
        for deed in deeds:
            if plain.refusal(deed):
                return plain.refusal(deed)
            plain.do(deed)
        return ""

    def test_one_refused_deed_at_any_place(self):
        words = set()
        for seed, shape in enumerate(plain_shapes()):
            deeds, _ = scattered(shape, seed, 9)
            for cut in (0, 4):
                store = filled(shape, deeds[:cut])
                plain = plain_behind(shape, deeds[:cut])
                for at in range(cut, len(deeds) + 1):
                    for deed in list(all_deeds(shape))[at % 4::4]:
                        row = deeds[cut:at] + [deed] + deeds[at:]
                        word = self.first_refusal(plain, row)
                        if word:
                            words.add(word)
                            self.refuse(store, Refused, row, word)
        self.assertEqual(words, {"there", "known", "new", "missing", "held"})

    def test_crossed(self):
        store = filled(Shape("main", "dev", "zoo", bases="refuse"), [
            ("pass", "main"), ("pass", "dev"), ("merge", "zoo", "dev"), ("merge", "dev", "main")])
        self.refuse(store, Refused, [("merge", "main", "zoo"), ("merge", "main", "dev")], "crossed")
        self.refuse(store, Refused, [("merge", "main", "zoo"), ("make", "dev", 0), ("squash", "dev", "main")],
                    "crossed")

    def test_one_value_that_is_no_deed(self):
        for shape in (Shape("main", "dev"), Shape("zoo", "main", "dev", places=2)):
            deeds, _ = scattered(shape, 3, 6)
            store = filled(shape, deeds[:2])
            wrong = [("make", "main", 2), ("pass", "main", "dev"), ["pass", "main"], "pass main",
                     ("merge", "dev", "dev"), ("make", "main", False), ("change", "main"), [("pass", "main")]]
            for value in ANY_VALUES + wrong:
                self.assertFalse(is_deed(shape, value))
                for at in range(2, len(deeds) + 1):
                    self.refuse(store, InvalidDeed, deeds[2:at] + [value] + deeds[at:])

    def test_no_deed_goes_ahead_of_refused(self):
        shape = Shape("main", "dev")
        store = filled(shape, [("make", "main", 0)])
        refused = ("make", "main", 0)
        for value in ANY_VALUES:
            self.refuse(store, InvalidDeed, [refused, value])
            self.refuse(store, InvalidDeed, [value, refused])
            self.refuse(store, InvalidDeed, [("pass", "dev"), refused, ("pass", "dev"), value])
        self.refuse(store, Refused, [refused, ("drop", "main", 0)], "there")
        self.refuse(store, Refused, [("drop", "main", 0), refused], "known")

    def test_wrong_branches(self):
        shapes = [Shape("main", "dev"), Shape("zoo", "main", "dev", places=2)]
        for store in [Store(shapes[0]), filled(shapes[0], MADE), filled(shapes[1], MADE)]:
            for value in others(*store.shape.branches) + ["zap", "Main", ("make", "main", 0)]:
                for method in (store.past, store.heard, store.told, store.contents, store.meaning):
                    with self.assertRaises(UnknownBranch) as caught:
                        method(value)
                    self.assertIs(caught.exception.name, value)
                    with self.assertRaises(UnknownBranch):
                        method(branch=value)
            for method in (store.past, store.heard, store.told, store.contents, store.meaning):
                self.assertEqual(method(branch="main"), method("main"))


class Undoing(unittest.TestCase):
    def nothing_left(self, store):
        before = state(store)
        with self.assertRaises(NothingLeft) as caught:
            store.undo()
        self.assertEqual(caught.exception.code, "NothingLeft")
        self.assertEqual(state(store), before)

    def test_do_and_undo_in_turn(self):
        for seed, shape in enumerate(plain_shapes()):
            draw = Draw(seed)
            store = Store(shape)
            stack = [PlainStore(shape)]
            self.nothing_left(store)
            for _ in range(40):
                if draw.below(3) == 0:
                    if len(stack) == 1:
                        self.nothing_left(store)
                    else:
                        self.assertEqual(store.undo(), stack.pop().log[-1])
                else:
                    deed = next_deed(draw, stack[-1])
                    stack.append(stack[-1].twin())
                    stack[-1].do(deed)
                    store.do(deed)
                check_store(self, store, stack[-1])
                self.assertEqual([moment.key for moment in store.walk()], [plain.key for plain in stack])

    def test_back_to_the_beginning(self):
        shape = Shape("main", "dev")
        store = filled(shape, MADE)
        for deed in reversed(MADE):
            self.assertTrue(same(store.undo(), deed))
        self.assertEqual(state(store), state(Store(shape)))
        self.nothing_left(store)
        store.do(*MADE)
        self.assertEqual(state(store), state(filled(shape, MADE)))


class Walking(unittest.TestCase):
    def test_the_moments_one_by_one(self):
        for seed, shape in enumerate(plain_shapes()):
            deeds, _ = scattered(shape, seed, 12)
            store = filled(shape, deeds)
            expected = [Moment(shape)]
            for deed in deeds:
                expected.append(expected[-1].after(deed))
            self.assertEqual(list(store.walk()), expected)
            self.assertEqual(expected[-1], store.moment)
            steps = store.walk()
            beside = store.walk()
            for moment in expected:
                self.assertEqual(next(steps), moment)
            self.assertEqual(next(beside), expected[0])
            with self.assertRaises(StopIteration):
                next(steps)
            self.assertEqual(list(beside), expected[1:])

    def test_walks_behind_undo(self):
        store = filled(Shape("main", "dev"), MADE)
        store.undo()
        self.assertEqual(list(store.walk()), list(filled(Shape("main", "dev"), MADE[:-1]).walk()))


class Twins(unittest.TestCase):
    def test_further_deeds_on_either(self):
        for seed, shape in enumerate(plain_shapes()):
            draw = Draw(seed)
            deeds, plain = scattered(shape, seed, 8)
            one = filled(shape, deeds)
            other = one.twin()
            self.assertIsNot(one, other)
            stacks = [(one, [plain_behind(shape, deeds[:at]) for at in range(9)]),
                      (other, [plain_behind(shape, deeds[:at]) for at in range(9)])]
            for _ in range(14):
                store, stack = draw.one_of(stacks)
                if draw.below(3) == 0 and len(stack) > 1:
                    self.assertEqual(store.undo(), stack.pop().log[-1])
                else:
                    deed = next_deed(draw, stack[-1])
                    stack.append(stack[-1].twin())
                    stack[-1].do(deed)
                    store.do(deed)
                for store, stack in stacks:
                    check_store(self, store, stack[-1])
                    self.assertEqual(len(list(store.walk())), len(stack))
                logs_equal = stacks[0][1][-1].log == stacks[1][1][-1].log
                self.assertIs(one == other, logs_equal)
                self.assertIs(one != other, not logs_equal)

    def test_a_twin_is_equal(self):
        store = filled(Shape("main", "dev"), MADE)
        twin = store.twin()
        self.assertTrue(store == twin)
        self.assertEqual(state(store), state(twin))
        self.assertEqual(twin.shape, store.shape)
        store.undo()
        self.assertFalse(store == twin)
        twin.undo()
        self.assertTrue(store == twin)
        twin.twin().undo()
        self.assertTrue(store == twin)


class Equality(unittest.TestCase):
    def test_shapes_and_logs_count(self):
        shapes = [Shape("main", "dev"), Shape("main", "dev", places=2), Shape("main", "dev", bases="any"),
                  Shape("main", "dev", table="0000"), Shape("dev", "main"), Shape("main", "dev", "zoo")]
        logs = [[], [("pass", "main")], [("pass", "dev")], [("pass", "main"), ("pass", "main")],
                [("pass", "main"), ("pass", "dev")], [("pass", "dev"), ("pass", "main")], MADE[:2]]
        for shape in shapes:
            for other in shapes:
                for one in logs:
                    for beside in logs:
                        equal = shape.text == other.text and one == beside
                        self.assertIs(filled(shape, one) == filled(other, beside), equal)
                        self.assertIs(filled(shape, one) != filled(other, beside), not equal)

    def test_equal_moments_are_not_enough(self):
        shape = Shape("main", "dev")
        one = filled(shape, [("pass", "main"), ("pass", "main")])
        other = filled(shape, [("pass", "main")])
        self.assertTrue(one.moment == other.moment)
        self.assertFalse(one == other)

    def test_a_store_equals_nothing_else(self):
        for store in (Store(Shape("main", "dev")), filled(Shape("main", "dev"), MADE)):
            for value in ANY_VALUES + [store.log(), repr(store), store.moment, store.shape, object()]:
                self.assertIs(store == value, False)
                self.assertIs(store != value, True)


if __name__ == "__main__":
    unittest.main()
