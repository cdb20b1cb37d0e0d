"""Conditions: texts and trees, how they are made, wrong texts, and what is true behind histories."""

import unittest

import trees
from histories import Draw, next_deed, plain_shapes
from plain_stores import PlainStore
from samples import ANY_VALUES, among, same
from stillmeant.conditions import Condition
from stillmeant.errors import InvalidCondition, InvalidName, InvalidNumber, UnknownBranch
from stillmeant.moments import Moment
from stillmeant.shapes import Shape, is_name

NAMES = ["main", "dev", "in", "holds", "true", "not", "all", "any", "right", "a", "abcdefgh"]
EIGHT = ["not(" * 7 + "true" + ")" * 7,
         "all(main in, dev in, any(main back, dev gone, not(dev in)))",
         "any(not(main twice), not(dev twice), all(main holds dev, true))",
         "all(all(all(true, true), true), not(true))"]
NINE = ["not(" * 8 + "true" + ")" * 8,
        "all(main in, dev in, any(main back, dev gone, all(main in, dev in)))",
        "any(not(main twice), not(dev twice), not(all(main holds dev, true)))",
        "all(all(true, true, true), all(true, true, true))",
        "any(any(any(any(true, true), true), true), true)"]


def drawn_trees(names, many):
    draw = Draw(len(names) + many)
    return [trees.drawn(draw, names, 1 + draw.below(8)) for _ in range(many)]


def right_trees():
    return trees.leaves(NAMES[:5]) + drawn_trees(NAMES, 400)


class Texts(unittest.TestCase):
    def check(self, tree):
        text = trees.written(tree)
        condition = Condition(text)
        self.assertEqual(condition.text, text)
        self.assertTrue(same(condition.tree, tree), (condition.tree, tree))
        self.assertTrue(same(condition.parts, trees.count(tree)))
        self.assertTrue(same(condition.branch_names(), sorted(trees.names_of(tree))))
        self.assertEqual(repr(condition), f"Condition({text})")
        self.assertTrue(condition == Condition(text=text))
        self.assertFalse(condition != Condition(text))

    def test_all_leaves(self):
        for tree in trees.leaves(NAMES):
            self.check(tree)

    def test_all_pairs_and_triples_of_some(self):
        some = trees.leaves(["main", "dev"])
        for one in some:
            self.check(("not", one))
            self.check(("not", ("not", one)))
            for other in some:
                self.check(("all", (one, other)))
                self.check(("any", (other, one, other)))
                self.check(("not", ("any", (one, ("not", other)))))

    def test_drawn_trees(self):
        found = right_trees()
        self.assertEqual({trees.count(tree) for tree in found}, set(range(1, 9)))
        for tree in found:
            self.check(tree)

    def test_some_trees(self):
        for text, tree, parts in [
                ("true", ("true",), 1),
                ("main in", ("told", "main", "in"), 1),
                ("dev quarrel", ("told", "dev", "quarrel"), 1),
                ("main holds dev", ("holds", "main", "dev"), 1),
                ("not(main back)", ("not", ("told", "main", "back")), 2),
                ("all(true, dev right)", ("all", (("true",), ("told", "dev", "right"))), 3),
                ("any(true, true, not(true))", ("any", (("true",), ("true",), ("not", ("true",)))), 5),
                ("true in", ("told", "true", "in"), 1),
                ("holds holds in", ("holds", "holds", "in"), 1),
                ("in in", ("told", "in", "in"), 1),
                ("not in", ("told", "not", "in"), 1)]:
            condition = Condition(text)
            self.assertTrue(same(condition.tree, tree))
            self.assertEqual((condition.text, condition.parts), (text, parts))

    def test_the_example_of_the_document(self):
        late = Condition("main gone") | ~Condition("dev in")
        self.assertEqual(late.text, "any(main gone, not(dev in))")
        self.assertEqual(late.parts, 4)
        self.assertEqual(late.branch_names(), ["dev", "main"])

    def test_most(self):
        self.assertTrue(same(Condition.MOST, 8))
        self.assertEqual(Condition("true").MOST, 8)
        for text in EIGHT:
            self.assertEqual(Condition(text).parts, 8)
            self.assertTrue(same(Condition(text).tree, trees.read(text)))

    def test_branch_names_are_new_and_stand_once(self):
        condition = Condition("all(zoo in, main holds zoo, not(dev in))")
        names = condition.branch_names()
        self.assertEqual(names, ["dev", "main", "zoo"])
        names.clear()
        self.assertEqual(condition.branch_names(), ["dev", "main", "zoo"])
        self.assertEqual(Condition("not(true)").branch_names(), [])

    def test_equality(self):
        texts = sorted({trees.written(tree) for tree in right_trees()})[::7]
        for one in texts:
            for other in texts:
                self.assertIs(Condition(one) == Condition(other), one == other)
                self.assertIs(Condition(one) != Condition(other), one != other)
        self.assertFalse(Condition("all(main in, dev in)") == Condition("all(dev in, main in)"))
        self.assertFalse(Condition("main in") == Condition("not(not(main in))"))

    def test_a_condition_equals_nothing_else(self):
        for condition in (Condition("true"), Condition("main in")):
            values = ANY_VALUES + [condition.text, condition.tree, repr(condition), "main in", object(),
                                   Shape("main", "dev")]
            for value in values:
                self.assertIs(condition == value, False)
                self.assertIs(condition != value, True)


class Making(unittest.TestCase):
    def check(self, condition, tree):
        self.assertIsInstance(condition, Condition)
        self.assertEqual(condition.text, trees.written(tree))
        self.assertTrue(same(condition.tree, tree))

    def test_telling(self):
        for name in NAMES:
            for word in trees.WORDS:
                self.check(Condition.telling(name, word), ("told", name, word))
        self.check(Condition.telling(word="back", branch="dev"), ("told", "dev", "back"))
        self.check(Condition("true").telling("dev", "in"), ("told", "dev", "in"))

    def test_holding(self):
        for name in NAMES:
            for other in NAMES:
                if name != other:
                    self.check(Condition.holding(name, other), ("holds", name, other))
        self.check(Condition.holding(other="main", branch="dev"), ("holds", "dev", "main"))

    def test_wrong_names_and_words(self):
        for value in ANY_VALUES + ["abcdefghi", "main ", " main", "twice", "holds", "out", "none", "Gone"]:
            if not is_name(value):
                self.refuse(value, Condition.telling, value, "in")
                self.refuse(value, Condition.telling, value, "wrong")
                self.refuse(value, Condition.holding, value, "main")
                self.refuse(value, Condition.holding, value, value)
                self.refuse(value, Condition.holding, "main", value)
            if not among(value, trees.WORDS):
                self.refuse(value, Condition.telling, "main", value)
        for name in NAMES:
            self.refuse(name, Condition.holding, name, name)

    def refuse(self, value, call, *values):
        with self.assertRaises(InvalidName) as caught:
            call(*values)
        self.assertIs(caught.exception.name, value)

    def test_two_and_three(self):
        some = [tree for tree in drawn_trees(["main", "dev", "zoo"], 60) if trees.count(tree) <= 3]
        made = [Condition(trees.written(tree)) for tree in some]
        for at, condition in enumerate(made):
            beside = (at * 5 + 3) % len(made)
            pair = (some[at], some[beside])
            self.joined_or_refused(("all", pair), Condition.all_of, condition, made[beside])
            self.joined_or_refused(("any", pair), Condition.any_of, condition, made[beside])
            triple = pair + (some[0],)
            self.joined_or_refused(("all", triple), Condition.all_of, condition, made[beside], made[0])
            self.joined_or_refused(("any", triple), Condition.any_of, condition, made[beside], made[0])
            self.check(condition & made[beside], ("all", pair))
            self.check(condition | made[beside], ("any", pair))
            self.check(~condition, ("not", some[at]))
            self.assertEqual(condition.text, trees.written(some[at]))

    def joined_or_refused(self, tree, call, *conditions):
        if trees.count(tree) <= 8:
            self.check(call(*conditions), tree)
        else:
            self.refuse_parts(trees.written(tree), lambda: call(*conditions))

    def refuse_parts(self, text, call):
        with self.assertRaises(InvalidCondition) as caught:
            call()
        self.assertEqual(caught.exception.given, text)

    def test_parts_at_the_limit(self):
        conditions = [Condition("not(" * many + "true" + ")" * many) for many in range(8)]
        for one in conditions:
            self.limited(one.parts + 1, f"not({one.text})", lambda: ~one)
            for other in conditions:
                parts = one.parts + other.parts + 1
                texts = f"{one.text}, {other.text}"
                self.limited(parts, f"all({texts})", lambda: one & other)
                self.limited(parts, f"any({texts})", lambda: one | other)
                self.limited(parts, f"all({texts})", lambda: Condition.all_of(one, other))
                self.limited(parts, f"any({texts})", lambda: Condition.any_of(one, other))
                for third in conditions:
                    texts = f"{one.text}, {other.text}, {third.text}"
                    more = parts + third.parts
                    self.limited(more, f"all({texts})", lambda: Condition.all_of(one, other, third))
                    self.limited(more, f"any({texts})", lambda: Condition.any_of(one, other, third))

    def limited(self, parts, text, call):
        if parts <= 8:
            made = call()
            self.assertEqual((made.text, made.parts), (text, parts))
        else:
            self.refuse_parts(text, call)

    def test_other_numbers_of_conditions(self):
        condition = Condition("main in")
        longest = Condition(EIGHT[0])
        for call in (Condition.all_of, Condition.any_of):
            for many in (0, 1, 4, 5, 9, 12):
                for one in (condition, longest):
                    with self.assertRaises(InvalidNumber) as caught:
                        call(*[one] * many)
                    self.assertTrue(same(caught.exception.number, many))

    def test_signs_bind_as_python_does(self):
        a, b, c = Condition("a in"), Condition("b in"), Condition("c in")
        self.assertEqual((a & b & c).text, "all(all(a in, b in), c in)")
        self.assertEqual((a | b & ~c).text, "any(a in, all(b in, not(c in)))")


class WrongTexts(unittest.TestCase):
    def refuse(self, value):
        with self.assertRaises(InvalidCondition) as caught:
            Condition(value)
        self.assertIs(caught.exception.given, value)
        self.assertEqual(caught.exception.code, "InvalidCondition")

    def check(self, text):
        tree = trees.read(text)
        if tree is None:
            self.refuse(text)
        else:
            self.assertTrue(same(Condition(text).tree, tree), text)

    def texts(self):
        some = [trees.written(tree) for tree in drawn_trees(["main", "in", "a", "true"], 60)]
        return EIGHT + ["true", "main in", "a holds in", "not(a in)", "all(a in, true)", "any(true, a in, b in)"] + some

    def test_one_sign_more_less_or_exchanged(self):
        signs = "ax (),\nA1_"
        for text in self.texts():
            for at in range(len(text) + 1):
                self.check(text[:at] + text[at + 1:])
                self.check(text[:at] + text[at:at + 1] * 2 + text[at + 1:])
                for sign in signs:
                    self.check(text[:at] + sign + text[at:])
                    self.check(text[:at] + sign + text[at + 1:])

    def test_one_word_exchanged(self):
        words = ["main", "dev", "in", "out", "none", "holds", "true", "false", "not", "all", "any", "abcdefghi", "Main",
                 "twice", "told", "if", "a1"]
        for text in self.texts():
            signs = trees.SIGNS.findall(text)
            for at, sign in enumerate(signs):
                if sign.isalpha():
                    for word in words:
                        self.check("".join(signs[:at] + [word] + signs[at + 1:]))

    def test_brackets(self):
        for text in ["", "()", "(true)", "true()", "not()", "all()", "any()", "not(true", "not true", "nottrue",
                     "not(true))", "not((true))", "not (true)", "not( true)", "not(true )", " not(true)", "not(true) ",
                     "not(true, true)", "all(true)", "all(true,true)", "all(true,  true)", "all(true , true)",
                     "all(true, true, true, true)", "all(true, true,)", "all(, true)", "all(true, , true)",
                     "all(true)(true)", "all(true), true)", "all(true, (true))", "all(true, true))", "main holds main",
                     "main holds", "holds main", "main in dev", "main holds dev in", "main  in", "main\nin",
                     "main in\n",
                     "main", "in", "main true", "true true", "main holds not(true)", "not(main) in", "xor(true, true)",
                     "all(a in), (b in, c in)", "NOT(true)", "True", "main out", "main none", "main told right"]:
            self.assertIsNone(trees.read(text))
            self.refuse(text)

    def test_nine_parts(self):
        for text in NINE:
            self.assertIsNone(trees.read(text))
            self.refuse(text)
        for text in EIGHT:
            self.assertEqual(Condition(text).text, text)

    def test_deep_and_wide_texts(self):
        for many in (8, 9, 50, 400, 1500):
            for opening in ("not(", "all(", "any(", "(", "all(true, ", "not(not("):
                self.refuse(opening * many + "true" + ")" * many)
                self.refuse(opening * many)
                self.refuse(opening * many + "true")
            self.refuse(")" * many)
            self.refuse("all(" + ", ".join(["true"] * many) + ")")
            self.refuse("(" * many + ")" * many)
            self.refuse("not(" * 7 + "true" + ")" * many)

    def test_values_that_are_no_texts(self):
        for value in ANY_VALUES:
            if value != "true":
                self.refuse(value)
        for value in (["main in"], ("told", "main", "in"), ("true",), [Condition("true").tree], 10**11):
            self.refuse(value)


class Truths(unittest.TestCase):
    def test_behind_histories(self):
        for seed, shape in enumerate(plain_shapes()):
            branches = list(shape.branches)
            some = trees.leaves(branches) + drawn_trees(branches, 30)
            made = [(Condition(trees.written(tree)), tree) for tree in some]
            draw = Draw(seed)
            plain = PlainStore(shape)
            moment = Moment(shape)
            for _ in range(30):
                for condition, tree in made:
                    self.assertIs(condition.holds(moment), trees.is_true(tree, plain), (condition, plain.log))
                deed = next_deed(draw, plain)
                plain.do(deed)
                moment = moment.after(deed)

    def test_each_word_is_true_and_false_somewhere(self):
        shape = Shape("main", "dev", places=2)
        start = Moment(shape)
        made = start.after(("make", "main", 0))
        behind = {
            "in": made, "twice": made.after(("pick", "main", "main2", 0, 1)) if "main2" in shape.branches
            else made.after(("make", "main", 1)),
            "gone": start.after(("mean", "main", "in")),
            "back": made.after(("mean", "main", "out")),
            "quarrel": made.after(("mean", "dev", "out")).after(("hear", "main", "dev")),
            "right": made,
        }
        for word, moment in behind.items():
            self.assertIs(Condition(f"main {word}").holds(moment), True)
            self.assertIs(Condition(f"not(main {word})").holds(moment=moment), False)
        self.assertIs(Condition("main holds dev").holds(start), True)
        self.assertIs(Condition("dev holds main").holds(made), False)
        self.assertIs(Condition("dev holds main").holds(made.after(("merge", "dev", "main"))), True)
        self.assertIs(Condition("true").holds(start), True)

    def test_the_first_unknown_branch(self):
        moments = [Moment(Shape("main", "dev")), Moment(Shape("zoo", "main", "dev")).after(("make", "zoo", 0))]
        for moment in moments:
            for text, name in [("all(zap in, abc in)", "abc"), ("any(true, main holds xyz)", "xyz"),
                               ("not(not(mainly gone))", "mainly"), ("any(ma in, maim in, main in)", "ma"),
                               ("b holds a", "a"), ("in in", "in")]:
                with self.assertRaises(UnknownBranch) as caught:
                    Condition(text).holds(moment)
                self.assertEqual(caught.exception.name, name)
        with self.assertRaises(UnknownBranch) as caught:
            Condition("any(zoo in, dev in)").holds(moments[0])
        self.assertEqual(caught.exception.name, "zoo")
        self.assertIs(Condition("any(zoo in, dev in)").holds(moments[1]), True)


if __name__ == "__main__":
    unittest.main()
