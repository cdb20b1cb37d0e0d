"""Shapes: all values and their errors, texts, equality and merges."""

import unittest
from itertools import product

from samples import ANY_VALUES, others, same
from stillmeant.errors import DuplicateName, InvalidBases, InvalidName, InvalidNumber
from stillmeant.errors import InvalidTable, InvalidText, UnknownBranch
from stillmeant.shapes import Shape, is_name

BRANCHES = [("main", "dev"), ("dev", "main"), ("a", "b", "c"), ("main", "dev", "abcdefgh"), ("shape", "newest", "in")]
TABLES = ["".join(digits) for digits in product("01", repeat=4)]
BASES = ["newest", "eldest", "any", "every", "refuse"]
ALL_CONTENTS = {1: [(), (0,)], 2: [(), (0,), (1,), (0, 1)]}
NAMES = ["a", "z", "main", "dev", "in", "out", "none", "true", "shape", "make", "newest", "abcdefgh", "zzzzzzzz"]
NO_NAMES = ["", " ", "Main", "mAin", "abcdefghi", "a b", "a1", "1", "a_b", "a-b", "main\n", "\n", " a", "a ",
            "`", "{", "a`", "a{", "abc.", "MAIN"]


def all_shapes():
    for branches, places, table, bases in product(BRANCHES, (1, 2), TABLES, BASES):
        yield branches, places, table, bases, Shape(*branches, places=places, table=table, bases=bases)


class Values(unittest.TestCase):
    def test_all_values(self):
        for branches, places, table, bases, shape in all_shapes():
            self.assertTrue(same(shape.branches, branches))
            self.assertTrue(same(shape.places, places))
            self.assertEqual(shape.table, table)
            self.assertEqual(shape.bases, bases)
            self.assertIs(shape.timed, bases == "newest" or bases == "eldest")
            self.assertEqual(shape.text, f"shape {' '.join(branches)} {places} {table} {bases}")
            self.assertEqual(repr(shape), f"Shape({', '.join(branches)})")
            for at, branch in enumerate(branches):
                self.assertTrue(same(shape.index(branch), at))
                self.assertTrue(same(shape.index(branch=branch), at))

    def test_defaults(self):
        for branches in BRANCHES:
            shape = Shape(*branches)
            self.assertTrue(same((shape.places, shape.table, shape.bases), (1, "1100", "newest")))
            self.assertEqual(Shape(*branches, places=2).text, f"shape {' '.join(branches)} 2 1100 newest")
            self.assertEqual(Shape(*branches, table="0110").text, f"shape {' '.join(branches)} 1 0110 newest")
            self.assertEqual(Shape(*branches, bases="any").text, f"shape {' '.join(branches)} 1 1100 any")

    def test_class_values(self):
        self.assertEqual(Shape.PLAIN, "1100")
        self.assertTrue(same(Shape.BASES, ("newest", "eldest", "any", "every", "refuse")))
        self.assertEqual(Shape("a", "b").PLAIN, "1100")

    def test_repr(self):
        self.assertEqual(repr(Shape("main", "dev")), "Shape(main, dev)")
        self.assertEqual(repr(Shape("main", "dev", "x", places=2)), "Shape(main, dev, x)")

    def test_other_values_by_name_only(self):
        with self.assertRaises(TypeError):
            Shape("main", "dev").changed(2)


class Equality(unittest.TestCase):
    def test_equal_texts(self):
        rows = [row[-1] for row in all_shapes()]
        again = [row[-1] for row in all_shapes()]
        for one, other in zip(rows, again):
            self.assertTrue(one == other)
            self.assertFalse(one != other)
        self.assertEqual(len({shape.text for shape in rows}), len(rows))

    def test_other_texts(self):
        shape = Shape("main", "dev")
        unlike = [Shape("dev", "main"), Shape("main", "dev", "x"), Shape("main", "devs"), shape.changed(places=2),
                  shape.changed(table="1101"), shape.changed(bases="eldest")]
        for other in unlike:
            self.assertFalse(shape == other)
            self.assertTrue(shape != other)

    def test_a_shape_equals_nothing_else(self):
        shape = Shape("main", "dev")
        for value in ANY_VALUES + [shape.text, shape.branches, repr(shape), object()]:
            self.assertIs(shape == value, False)
            self.assertIs(shape != value, True)


class Names(unittest.TestCase):
    def test_names(self):
        for name in NAMES:
            self.assertIs(is_name(name), True)
            self.assertIs(is_name(value=name), True)
        for code in range(32, 127):
            letter = chr(code)
            self.assertIs(is_name(letter), letter in "abcdefghijklmnopqrstuvwxyz")
            self.assertIs(is_name("ab" + letter), letter in "abcdefghijklmnopqrstuvwxyz")
        for length in range(12):
            self.assertIs(is_name("x" * length), 1 <= length <= 8)

    def test_other_values(self):
        for value in NO_NAMES:
            self.assertIs(is_name(value), False)
        for value in ANY_VALUES:
            if not isinstance(value, str):
                self.assertIs(is_name(value), False)


class Errors(unittest.TestCase):
    def refuse(self, error, attribute, value, call):
        with self.assertRaises(error) as caught:
            call()
        self.assertTrue(same(getattr(caught.exception, attribute), value), (caught.exception, value))

    def test_wrong_numbers_of_branches(self):
        for branches in [(), ("a",), ("a", "b", "c", "d"), ("a", "a", "b", "b"), (None,), (1,) * 5, (["a"],)]:
            self.refuse(InvalidNumber, "number", len(branches), lambda: Shape(*branches))
            self.refuse(InvalidNumber, "number", len(branches), lambda: Shape(*branches, places=0, table=1))

    def test_wrong_names(self):
        wrong = NO_NAMES + [value for value in ANY_VALUES if not isinstance(value, str)]
        for value in wrong:
            self.refuse(InvalidName, "name", value, lambda: Shape(value, "b"))
            self.refuse(InvalidName, "name", value, lambda: Shape("a", value))
            self.refuse(InvalidName, "name", value, lambda: Shape("a", "b", value))
            self.refuse(InvalidName, "name", value, lambda: Shape("a", value, "B!", places=0, table=0, bases=0))
            self.refuse(InvalidName, "name", value, lambda: Shape("a", "a", value))

    def test_doubled_names(self):
        for branches, name in [(("a", "a"), "a"), (("a", "b", "a"), "a"), (("a", "b", "b"), "b"),
                               (("a", "a", "a"), "a"), (("main", "main", "dev"), "main")]:
            self.refuse(DuplicateName, "name", name, lambda: Shape(*branches))
            self.refuse(DuplicateName, "name", name, lambda: Shape(*branches, places=3, table="", bases=""))

    def test_wrong_places(self):
        for value in others(1, 2):
            self.refuse(InvalidNumber, "number", value, lambda: Shape("a", "b", places=value))
            self.refuse(InvalidNumber, "number", value, lambda: Shape("a", "b", places=value, table="x", bases="x"))

    def test_wrong_tables(self):
        more = ["", "110", "11000", "1102", "110 ", "110\n", " 1100", "aaaa", "01", 1100, 110, ["1", "1", "0", "0"],
                ("1", "1", "0", "0"), ["1100"], "-100", "1.00"]
        for value in others("1100") + more:
            self.refuse(InvalidTable, "given", value, lambda: Shape("a", "b", table=value))
            self.refuse(InvalidTable, "given", value, lambda: Shape("a", "b", places=2, table=value, bases="x"))

    def test_each_character_of_a_table(self):
        for at in range(4):
            for code in [10] + list(range(32, 127)):
                table = "1100"[:at] + chr(code) + "1100"[at + 1:]
                if chr(code) in "01":
                    self.assertEqual(Shape("a", "b", table=table).table, table)
                else:
                    self.refuse(InvalidTable, "given", table, lambda: Shape("a", "b", table=table))

    def test_wrong_words_for_bases(self):
        for value in others(*BASES) + ["Newest", "newest ", "oldest", "all", "new", "newesteldest", tuple(BASES)]:
            self.refuse(InvalidBases, "given", value, lambda: Shape("a", "b", bases=value))

    def test_wrong_branches_for_index(self):
        for branches in BRANCHES:
            shape = Shape(*branches)
            for value in others(*branches) + [branches, list(branches), branches[0] + " "]:
                self.refuse(UnknownBranch, "name", value, lambda: shape.index(value))
                self.refuse(UnknownBranch, "name", value, lambda: shape.index(branch=value))


class Changed(unittest.TestCase):
    def test_each_value(self):
        for branches, places, table, bases, shape in all_shapes():
            self.assertEqual(shape.changed(), shape)
            text = shape.text
            for other in (1, 2):
                self.assertEqual(shape.changed(places=other), Shape(*branches, places=other, table=table, bases=bases))
            for other in ("1100", "0011"):
                self.assertEqual(shape.changed(table=other), Shape(*branches, places=places, table=other, bases=bases))
            for other in BASES:
                self.assertEqual(shape.changed(bases=other), Shape(*branches, places=places, table=table, bases=other))
            self.assertEqual(shape.text, text)

    def test_all_values_at_once(self):
        shape = Shape("a", "b", "c", places=2, table="0001", bases="any")
        other = shape.changed(places=1, table="1110", bases="every")
        self.assertEqual(other.text, "shape a b c 1 1110 every")
        self.assertEqual(shape.changed(places=None, table=None, bases=None), shape)
        self.assertEqual(other.timed, False)
        self.assertEqual(other.changed(bases="eldest").timed, True)

    def test_wrong_values(self):
        shape = Shape("a", "b", places=2, table="0001", bases="any")
        for error, name, attribute, right in [(InvalidNumber, "places", "number", [1, 2]),
                                              (InvalidTable, "table", "given", ["1100"]),
                                              (InvalidBases, "bases", "given", BASES)]:
            for value in others(None, *right):
                with self.assertRaises(error) as caught:
                    shape.changed(**{name: value})
                self.assertTrue(same(getattr(caught.exception, attribute), value))
        with self.assertRaises(InvalidNumber):
            shape.changed(places=0, table="", bases="")
        with self.assertRaises(InvalidTable):
            shape.changed(table="", bases="")
        self.assertEqual(shape.text, "shape a b 2 0001 any")


class Read(unittest.TestCase):
    def refuse(self, value):
        with self.assertRaises(InvalidText) as caught:
            Shape.read(value)
        self.assertTrue(same(caught.exception.at, 0))

    def test_all_texts(self):
        for branches, places, table, bases, shape in all_shapes():
            read = Shape.read(shape.text)
            self.assertEqual(read, shape)
            self.assertTrue(same((read.branches, read.places, read.table, read.bases),
                                 (branches, places, table, bases)))
        self.assertEqual(Shape.read(text="shape a b 1 1100 any").text, "shape a b 1 1100 any")

    def test_values_that_are_no_texts(self):
        for value in ANY_VALUES:
            self.refuse(value)
        self.refuse(["shape", "main", "dev", "1", "1100", "newest"])
        self.refuse(("shape", "main", "dev", 1, "1100", "newest"))

    def test_texts_with_a_wrong_word(self):
        wrong = ["", "0", "3", "01", "+1", "1 ", "Main", "110", "11000", "1102", "Newest", "Shape", "\n", "a\n"]
        for text in ["shape main dev 1 1100 newest", "shape a b c 2 0110 refuse"]:
            words = text.split(" ")
            for at in range(len(words)):
                for word in wrong:
                    self.refuse(" ".join(words[:at] + [word] + words[at + 1:]))
                self.refuse(" ".join(words[:at]))

    def test_texts_with_a_word_left_out_or_doubled(self):
        two = ["shape", "main", "dev", "1", "1100", "newest"]
        three = ["shape", "a", "b", "c", "2", "0110", "refuse"]
        for at in range(len(two)):
            self.refuse(" ".join(two[:at] + two[at + 1:]))
        for at in range(len(three)):
            self.refuse(" ".join(three[:at + 1] + three[at:]))
            if three[at] not in ("a", "b", "c"):
                self.refuse(" ".join(three[:at] + three[at + 1:]))
        for at in range(1, len(two)):
            self.refuse(" ".join(two[:at + 1] + two[at:]))
        # The first word is a name, too: doubled, it is a third branch.
        self.assertEqual(Shape.read("shape " + " ".join(two)).branches, ("shape", "main", "dev"))

    def test_texts_with_other_spaces(self):
        text = "shape main dev 1 1100 newest"
        for wrong in [" " + text, text + " ", text + "\n", "\n" + text, text.replace(" ", "  "),
                      text.replace(" ", "\n"), text.replace(" ", ""), text + "\n" + text, text + " " + text]:
            self.refuse(wrong)
        for at in range(len(text)):
            if text[at] == " ":
                self.refuse(text[:at] + " " + text[at:])
                self.refuse(text[:at] + "\n" + text[at + 1:])

    def test_texts_of_shapes_that_are_refused(self):
        for wrong in ["shape main 1 1100 newest", "shape a b c d 1 1100 newest", "shape a a 1 1100 newest",
                      "shape a b a 1 1100 newest", "shape a B 1 1100 newest", "shape a abcdefghi 1 1100 newest",
                      "shape a b 0 1100 newest", "shape a b 3 1100 newest", "shape a b 1 110 newest",
                      "shape a b 1 1100 last", "shape", "", "shape 1 1100 newest", "shapes a b 1 1100 newest"]:
            self.refuse(wrong)


class Merges(unittest.TestCase):
    def merged(self, shape, base, ours, theirs):
        """The contents of a merge by the rows of the document's table."""
        rows = {(0, 0, 1): 0, (0, 1, 0): 1, (1, 0, 1): 2, (1, 1, 0): 3}
        found = []
        for place in range(shape.places):
            row = (int(place in base), int(place in ours), int(place in theirs))
            stands = row[1] if row[1] == row[2] else int(shape.table[rows[row]])
            found.extend([place] * stands)
        return tuple(found)

    def test_all_contents_and_tables(self):
        for places, table in product((1, 2), TABLES):
            shape = Shape("main", "dev", places=places, table=table)
            for base, ours, theirs in product(ALL_CONTENTS[places], repeat=3):
                expected = self.merged(shape, base, ours, theirs)
                self.assertTrue(same(shape.merged(base, ours, theirs), expected))
                self.assertTrue(same(shape.merged(base=base, ours=ours, theirs=theirs), expected))

    def test_each_digit_by_itself(self):
        for table, base, ours, theirs in [("1000", (), (), (0,)), ("0100", (), (0,), ()),
                                          ("0010", (0,), (), (0,)), ("0001", (0,), (0,), ())]:
            for other in ("1000", "0100", "0010", "0001"):
                shape = Shape("a", "b", table=other)
                expected = (0,) if other == table else ()
                self.assertEqual(shape.merged(base, ours, theirs), expected)

    def test_the_plain_table_takes_what_differs_from_the_base(self):
        for places in (1, 2):
            shape = Shape("main", "dev", places=places)
            for base, ours, theirs in product(ALL_CONTENTS[places], repeat=3):
                taken = shape.merged(base, ours, theirs)
                for place in range(places):
                    differs = (place in ours) != (place in base) or (place in theirs) != (place in base)
                    self.assertEqual((place in taken) != (place in base), differs)
                self.assertEqual(shape.merged(base, base, theirs), theirs)
                self.assertEqual(shape.merged(base, ours, base), ours)

    def test_the_examples_of_the_document(self):
        shape = Shape("main", "dev", places=2)
        self.assertEqual(shape.merged((0,), (), (0,)), ())
        self.assertEqual(shape.merged((), (0,), (1,)), (0, 1))
        self.assertEqual(shape.text, "shape main dev 2 1100 newest")

    def test_the_word_for_bases_does_not_matter(self):
        for bases in BASES:
            shape = Shape("a", "b", "c", bases=bases)
            self.assertEqual(shape.merged((0,), (), (0,)), ())
            self.assertEqual(shape.merged((), (), (0,)), (0,))


if __name__ == "__main__":
    unittest.main()
