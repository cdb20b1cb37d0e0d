"""Policies: lines and texts, wrong lines and wrong texts, and which lines are possible behind histories."""

import unittest

import trees
from histories import Draw, plain_shapes
from plain_stores import PlainStore
from samples import ANY_VALUES, among, others, same
from stillmeant.conditions import Condition
from stillmeant.deeds import all_deeds, deed_text
from stillmeant.errors import Impossible, InvalidLine, InvalidNumber, InvalidText, WrongShape
from stillmeant.moments import Moment
from stillmeant.policies import Policy
from stillmeant.shapes import Shape

SHAPES = [Shape("main", "dev"), Shape("main", "dev", places=2, table="0110", bases="any"),
          Shape("zoo", "main", "dev", places=2, bases="refuse"), Shape("if", "in", "main", bases="eldest")]
TEXT = ("shape main dev 1 1100 newest\nmake dev 0 if true\nmerge main dev if not(main in)\n"
        "pick main dev 0 0 if dev in\ndrop main 0 if all(main in, dev right)")


def drawn_lines(draw, shape, many, parts=8):
    """Lines of a policy, as pairs of a deed and the tree of its condition."""
    deeds = list(all_deeds(shape))
    return [(draw.one_of(deeds), trees.drawn(draw, list(shape.branches), 1 + draw.below(parts))) for _ in range(many)]


def made_lines(lines):
    return [(deed, Condition(trees.written(tree))) for deed, tree in lines]


def line_texts(lines):
    return [" ".join(str(item) for item in deed) + " if " + trees.written(tree) for deed, tree in lines]


def drawn_policies():
    """Triples of a shape, the lines with trees, and the policy."""
    for at, shape in enumerate(SHAPES):
        draw = Draw(at)
        for many in range(1, 13):
            for _ in range(3):
                lines = drawn_lines(draw, shape, many)
                yield shape, lines, Policy(shape, made_lines(lines))


def state(policy):
    return (policy.shape.text, policy.lines(), policy.text, len(policy), repr(policy))


class Values(unittest.TestCase):
    def test_all_numbers_of_lines(self):
        for shape, lines, policy in drawn_policies():
            made = made_lines(lines)
            self.assertEqual(policy.shape, shape)
            self.assertEqual(policy.lines(), made)
            self.assertIsInstance(policy.lines(), list)
            self.assertTrue(all(isinstance(line, tuple) for line in policy.lines()))
            self.assertEqual(len(policy), len(lines))
            self.assertEqual(repr(policy), f"Policy({len(lines)} lines)")
            text = "\n".join([shape.text] + line_texts(lines))
            self.assertEqual(policy.text, text)
            self.check_read(text, policy)

    def check_read(self, text, policy):
        read = Policy.read(text)
        self.assertEqual(state(read), state(policy))
        self.assertTrue(read == policy)
        self.assertFalse(read != policy)

    def test_most(self):
        self.assertTrue(same(Policy.MOST, 12))
        self.assertEqual(Policy.read(TEXT).MOST, 12)

    def test_a_text(self):
        policy = Policy(Shape("main", "dev"), [
            (("make", "dev", 0), Condition("true")), (("merge", "main", "dev"), ~Condition("main in")),
            (("pick", "main", "dev", 0, 0), Condition("dev in")),
            (("drop", "main", 0), Condition("main in") & Condition("dev right"))])
        self.assertEqual(policy.text, TEXT)
        self.assertTrue(Policy.read(text=TEXT) == policy)
        self.assertEqual(repr(Policy.read(TEXT)), "Policy(4 lines)")
        self.assertEqual(repr(policy.without(1, 2, 3)), "Policy(1 lines)")

    def test_arguments_by_name(self):
        policy = Policy(lines=Policy.read(TEXT).lines(), shape=Shape("main", "dev"))
        first = Moment(policy.shape)
        self.assertEqual(policy.text, TEXT)
        self.assertEqual(policy.possible(moment=first), [0])
        self.assertEqual(policy.after(line=0, moment=first), first.after(("make", "dev", 0)))

    def test_a_tuple_of_lines(self):
        for shape, lines, policy in drawn_policies():
            self.assertTrue(Policy(shape, tuple(made_lines(lines))) == policy)
            self.assertIsInstance(Policy(shape, tuple(made_lines(lines))).lines(), list)

    def test_the_list_that_was_passed(self):
        for shape, lines, policy in drawn_policies():
            passed = made_lines(lines)
            before = list(passed)
            made = Policy(shape, passed)
            self.assertEqual(passed, before)
            text = made.text
            passed.reverse()
            passed.append(None)
            self.assertEqual((made.text, made.lines()), (text, before))
            made.lines().clear()
            self.assertEqual((made.text, made.lines(), len(made)), (text, before, len(before)))

    def test_the_same_line_twice(self):
        line = (("pass", "main"), Condition("true"))
        policy = Policy(Shape("main", "dev"), [line, line])
        self.assertEqual((len(policy), policy.lines()), (2, [line, line]))
        self.assertEqual(policy.possible(Moment(policy.shape)), [0, 1])

    def test_equality(self):
        found = list(drawn_policies())[::5]
        for _, _, one in found:
            for _, _, other in found:
                self.assertIs(one == other, one.text == other.text)
                self.assertIs(one != other, one.text != other.text)
        lines = Policy.read(TEXT).lines()
        shapes = [Shape("main", "dev"), Shape("main", "dev", places=2), Shape("main", "dev", bases="any"),
                  Shape("dev", "main"), Shape("main", "dev", "zoo")]
        for shape in shapes:
            for other in shapes:
                self.assertIs(Policy(shape, lines) == Policy(other, lines), shape.text == other.text)
        self.assertFalse(Policy(shapes[0], lines) == Policy(shapes[0], lines[::-1]))
        self.assertFalse(Policy(shapes[0], lines) == Policy(shapes[0], lines[:-1]))

    def test_a_policy_equals_nothing_else(self):
        policy = Policy.read(TEXT)
        for value in ANY_VALUES + [TEXT, repr(policy), policy.shape, policy.lines(), Condition("true"), object()]:
            self.assertIs(policy == value, False)
            self.assertIs(policy != value, True)


class WrongLines(unittest.TestCase):
    def refuse(self, shape, lines, at):
        before = list(lines)
        with self.assertRaises(InvalidLine) as caught:
            Policy(shape, lines)
        self.assertTrue(same(caught.exception.at, at))
        self.assertEqual(lines if isinstance(lines, list) else list(lines), before)

    def wrong_lines(self, shape):
        """Values that are no lines of a policy with the shape."""
        deed = ("pass", "main")
        true = Condition("true")
        rows = ANY_VALUES + [[deed, true], (deed,), (deed, true, true), (true, deed), (deed, "true"), (deed, ("true",)),
                             (deed, None), (deed, deed), (true, true), ("pass main", true), (["pass", "main"], true),
                             (deed, Condition("abc in")), (deed, Condition("all(true, not(main holds abc))")),
                             (("pass", "abc"), true), (("make", "main", 2), true), (("make", "main", False), true),
                             (("merge", "main", "main"), true), (("undo",), true), ((), true), (None, true), true, deed,
                             f"{deed_text(deed)} if true", [(deed, true)], ((deed, true),)]
        if shape.places == 1:
            rows.append((("make", "main", 1), true))
        return rows

    def test_a_wrong_line_at_any_place(self):
        for seed, shape in enumerate(SHAPES):
            lines = made_lines(drawn_lines(Draw(seed), shape, 11))
            for many in (0, 1, 4, 11):
                for at in range(many + 1):
                    for value in self.wrong_lines(shape):
                        self.refuse(shape, lines[:at] + [value] + lines[at:many], at)
                self.refuse(shape, tuple(lines[:many]) + (None,), many)

    def test_the_first_of_two_wrong_lines(self):
        lines = Policy.read(TEXT).lines()
        self.refuse(Shape("main", "dev"), lines + [None, True], 4)
        self.refuse(Shape("main", "dev"), [1] + lines + [None], 0)

    def test_lines_of_other_shapes(self):
        for shape in SHAPES:
            for other in SHAPES:
                for line in made_lines(drawn_lines(Draw(7), other, 40)):
                    deed, condition = line
                    names = condition.branch_names()
                    if among(deed, list(all_deeds(shape))) and all(name in shape.branches for name in names):
                        self.assertEqual(Policy(shape, [line]).lines(), [line])
                    else:
                        self.refuse(shape, [line], 0)

    def test_numbers_of_lines(self):
        line = (("pass", "main"), Condition("true"))
        for many in (0, 13, 14, 40, 400):
            for rows in ([line] * many, (line,) * many, [None] * many, [line] * (many - 1) + [None] * (many > 0)):
                with self.assertRaises(InvalidNumber) as caught:
                    Policy(Shape("main", "dev"), rows)
                self.assertTrue(same(caught.exception.number, many))
        for many in (1, 12):
            self.assertEqual(len(Policy(Shape("main", "dev"), [line] * many)), many)


class WrongTexts(unittest.TestCase):
    def refuse(self, value, at):
        with self.assertRaises(InvalidText) as caught:
            Policy.read(value)
        self.assertTrue(same(caught.exception.at, at), (value, caught.exception.at, at))

    def test_values_that_are_no_texts(self):
        for value in ANY_VALUES:
            self.refuse(value, 0)
        for value in ([TEXT], (TEXT,), TEXT.split("\n"), Policy.read(TEXT).lines()):
            self.refuse(value, 0)

    def test_a_wrong_shape(self):
        _, rest = TEXT.split("\n", 1)
        for first in ["", "shape", "main dev 1 1100 newest", "shape main dev 3 1100 newest", "shape main 1 1100 newest",
                      "shape main main 1 1100 newest", "shape main dev 1 1100 latest", "shape main dev 1 110 newest",
                      " shape main dev 1 1100 newest", "shape main dev 1 1100 newest ", "make dev 0 if true"]:
            self.refuse(first, 0)
            self.refuse(first + "\n" + rest, 0)
            self.refuse(first + "\nwrong", 0)
        self.refuse("\n" + TEXT, 0)
        self.refuse(rest, 0)

    def test_a_wrong_line_at_any_place(self):
        wrong = ["", " ", "true", "make dev 0", "make dev 0 if", "make dev 0 if ", "if true", " if true",
                 "make dev 0 if true ", " make dev 0 if true", "make dev 0  if true", "make dev 0 if  true",
                 "make dev 0 iftrue", "make dev 0if true", "make dev 0 If true", "make dev 0 when true",
                 "make dev 00 if true", "make dev 2 if true", "make dev +0 if true", "make zap 0 if true",
                 "merge dev dev if true", "merge main zap if true", "mean dev none if true", "undo if true",
                 "make dev 0 if dev", "make dev 0 if zap in", "make dev 0 if dev holds zap",
                 "make dev 0 if dev holds dev",
                 "make dev 0 if all(true, not(zap in))", "make dev 0 if not(true))", "make dev 0 if all(true,true)",
                 "make dev 0 if " + "not(" * 8 + "true" + ")" * 8, "make dev 0 if true if true", "make if true",
                 "shape main dev 1 1100 newest", "make dev 0 if dev in if true", "make dev 0 make dev 0 if true"]
        right = TEXT.split("\n")
        self.assertEqual(len(Policy.read("\n".join(right))), 4)
        for value in wrong:
            for at in range(1, len(right) + 1):
                self.refuse("\n".join(right[:at] + [value] + right[at:]), at)
            for at in range(1, len(right)):
                self.refuse("\n".join(right[:at] + [value] + right[at + 1:]), at)
                self.refuse("\n".join(right[:at] + [value, "wrong"]), at)

    def test_one_sign_more_or_less(self):
        for text in [TEXT, "shape if in 2 0110 any\npick if in 0 1 if if holds in\nhear in if if not(if in)"]:
            rows = text.split("\n")
            for at in range(1, len(rows)):
                for place in range(len(rows[at]) + 1):
                    start, end = rows[at][:place], rows[at][place:]
                    for changed in [start + end[1:], start + " " + end, start + "x" + end, start + "1" + end]:
                        self.check_line(rows, at, changed)

    def check_line(self, rows, at, changed):
        """One line of a text exchanged: it is refused if no deed and condition have this text."""
        shape = Shape.read(rows[0])
        text = "\n".join(rows[:at] + [changed] + rows[at + 1:])
        tops = [changed[len(deed_text(deed)) + 4:] for deed in all_deeds(shape)
                if changed[:len(deed_text(deed)) + 4] == deed_text(deed) + " if "]
        tree = trees.read(tops[0]) if tops else None
        if tree is None or not trees.names_of(tree) <= set(shape.branches):
            self.refuse(text, at)
        else:
            self.assertEqual(Policy.read(text).text, text)

    def test_numbers_of_lines(self):
        shape = "shape main dev 1 1100 newest"
        self.refuse(shape, 1)
        self.refuse(shape + "\n", 1)
        for many in (13, 14, 30):
            text = "\n".join([shape] + ["pass dev if true"] * many)
            self.refuse(text, many + 1)
            self.refuse(text + "\nwrong", many + 1)
            self.refuse(text + "\n", many + 1)
            self.refuse(text.replace("pass dev", "pass zap"), 1)
        self.assertEqual(len(Policy.read("\n".join([shape] + ["pass dev if true"] * 12))), 12)
        self.assertEqual(len(Policy.read("\n".join([shape] + ["pass dev if true"]))), 1)
        self.refuse(TEXT + "\n", 5)

    def test_a_branch_that_is_called_if(self):
        text = ("shape if in 2 1100 newest\nhear in if if if in\nmerge if in if if holds in\n"
                "mean if in if any(in holds if, if in)")
        policy = Policy.read(text)
        self.assertEqual(policy.text, text)
        self.assertEqual([deed for deed, _ in policy.lines()], [("hear", "in", "if"), ("merge", "if", "in"),
                                                                ("mean", "if", "in")])
        self.refuse(text + "\nhear in if if", 4)
        self.refuse(text + "\nhear in if true", 4)


class Playing(unittest.TestCase):
    def possible(self, lines, plain):
        return [at for at, (deed, tree) in enumerate(lines)
                if trees.is_true(tree, plain) and plain.refusal(deed) == ""]

    def test_histories(self):
        played = 0
        for seed, shape in enumerate(plain_shapes() + SHAPES):
            draw = Draw(seed)
            for _ in range(3):
                lines = drawn_lines(draw, shape, 12, 2)
                policy = Policy(shape, made_lines(lines))
                played += self.play(draw, policy, lines, 12)
        self.assertGreater(played, 400)

    def play(self, draw, policy, lines, length):
        """Plays lines that are possible, and checks each moment and each wrong line on the way."""
        plain = PlainStore(policy.shape)
        moment = Moment(policy.shape)
        history = []
        for _ in range(length):
            right = self.possible(lines, plain)
            self.assertTrue(same(policy.possible(moment), right), plain.log)
            for at in range(len(lines)):
                if at in right:
                    self.assertEqual(policy.after(moment, at), moment.after(lines[at][0]))
                else:
                    self.not_possible(at, policy.after, moment, at)
            if not right:
                break
            line = draw.one_of(right)
            history.append(line)
            plain.do(lines[line][0])
            moment = policy.after(moment, line)
            self.assertTrue(same(moment.key, plain.key))
            self.assertEqual(policy.played(*history), moment)
        self.check_wrong_histories(policy, lines, history)
        return len(history)

    def check_wrong_histories(self, policy, lines, history):
        """A value that is no possible line at any place of a history."""
        plain = PlainStore(policy.shape)
        for at in range(len(history) + 1):
            right = self.possible(lines, plain)
            wrong = [line for line in range(len(lines)) if line not in right]
            for value in wrong[:3] + [len(lines), -1, None, True, "0", (0,), [0]]:
                self.not_possible(at, policy.played, *history[:at], value, *history[at:])
                self.not_possible(at, policy.played, *history[:at], value)
            if at < len(history):
                plain.do(lines[history[at]][0])

    def not_possible(self, at, call, *values):
        with self.assertRaises(Impossible) as caught:
            call(*values)
        self.assertTrue(same(caught.exception.at, at), (caught.exception.at, at))

    def test_no_history(self):
        for shape, _, policy in drawn_policies():
            self.assertEqual(policy.played(), Moment(shape))

    def test_values_that_are_no_indexes(self):
        for shape, lines, policy in drawn_policies():
            moment = Moment(shape)
            right = policy.possible(moment)
            for value in others(*right) + [12, 13, -12]:
                if not among(value, right):
                    with self.assertRaises(Impossible) as caught:
                        policy.after(moment, value)
                    self.assertIs(caught.exception.at, value)
                    self.not_possible(0, policy.played, value)
                    for line in right[:1]:
                        if isinstance(value, (bool, str, list, tuple)):
                            self.not_possible(1, policy.played, line, value)

    def test_wrong_shapes(self):
        moments = [Moment(shape) for shape in SHAPES + [Shape("main", "dev", bases="any"), Shape("dev", "main")]]
        for policy in [Policy(shape, [(("pass", shape.branches[0]), Condition("true"))]) for shape in SHAPES]:
            for moment in moments:
                if moment.shape == policy.shape:
                    self.assertEqual(policy.possible(moment), [0])
                    continue
                with self.assertRaises(WrongShape) as caught:
                    policy.possible(moment)
                self.assertEqual(caught.exception.code, "WrongShape")
                for value in ANY_VALUES:
                    with self.assertRaises(WrongShape):
                        policy.after(moment, value)

    def test_a_shape_that_is_equal_is_enough(self):
        policy = Policy.read(TEXT)
        self.assertEqual(policy.possible(Moment(Shape.read("shape main dev 1 1100 newest"))), [0])
        self.assertEqual(policy.played(0, 1), Policy.read(TEXT).played(0, 1))

    def test_the_lists_are_new(self):
        policy = Policy.read(TEXT)
        moment = Moment(policy.shape)
        policy.possible(moment).clear()
        self.assertEqual(policy.possible(moment), [0])


class Without(unittest.TestCase):
    def test_some_lines(self):
        for seed, (shape, lines, policy) in enumerate(drawn_policies()):
            before = state(policy)
            draw = Draw(seed)
            many = len(lines)
            for _ in range(12):
                gone = [draw.below(many) for _ in range(draw.below(many + 2))]
                left = [lines[at] for at in range(many) if at not in gone]
                if left:
                    expected = Policy(shape, made_lines(left))
                    self.assertEqual(state(policy.without(*gone)), state(expected))
                    self.assertEqual(state(policy.without(*gone, *gone[::-1])), state(expected))
                else:
                    self.refuse(0, policy, *gone)
            self.assertTrue(policy.without() == policy)
            self.assertEqual(state(policy.without()), before)
            self.refuse(0, policy, *range(many))
            self.refuse(0, policy, *range(many), 0)
            self.assertEqual(state(policy), before)

    def test_values_that_are_no_indexes(self):
        for shape, lines, policy in drawn_policies():
            many = len(lines)
            for value in others(*range(many)) + [12, -12]:
                self.refuse(value, policy, value)
                self.refuse(value, policy, 0, value)
                self.refuse(value, policy, value, "other")
                self.refuse(value, policy, *range(many), value)

    def refuse(self, number, policy, *lines):
        before = state(policy)
        with self.assertRaises(InvalidNumber) as caught:
            policy.without(*lines)
        self.assertTrue(same(caught.exception.number, number))
        self.assertEqual(state(policy), before)


if __name__ == "__main__":
    unittest.main()
