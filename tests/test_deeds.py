"""Deeds: which values are deeds, their texts, and the list of all of them."""

import unittest

from samples import ANY_VALUES, among, same
from stillmeant.deeds import all_deeds, deed_text, is_deed, read_deed
from stillmeant.errors import InvalidDeed
from stillmeant.shapes import Shape

SHAPES = [
    Shape("main", "dev"),
    Shape("main", "dev", places=2),
    Shape("zoo", "main", "dev"),
    Shape("zoo", "main", "dev", places=2, table="0000", bases="refuse"),
    Shape("make", "in", "out", places=2),
]

TWO_BRANCHES = [
    ("make", "main", 0), ("make", "dev", 0),
    ("restore", "main", 0), ("restore", "dev", 0),
    ("drop", "main", 0), ("drop", "dev", 0),
    ("pick", "main", "dev", 0, 0), ("pick", "dev", "main", 0, 0),
    ("merge", "main", "dev"), ("merge", "dev", "main"),
    ("squash", "main", "dev"), ("squash", "dev", "main"),
    ("pass", "main"), ("pass", "dev"),
    ("hear", "main", "dev"), ("hear", "dev", "main"),
    ("mean", "main", "in"), ("mean", "main", "out"), ("mean", "dev", "in"), ("mean", "dev", "out"),
]


def listed(shape):
    """All deeds of a shape, written down word by word."""
    branches = shape.branches
    places = [0, 1][:shape.places]
    pairs = [(one, other) for one in branches for other in branches if one != other]
    rows = []
    for word in ("make", "restore", "drop"):
        rows.extend((word, branch, place) for branch in branches for place in places)
    rows.extend(("pick", one, other, p, q) for one, other in pairs for p in places for q in places)
    for word in ("merge", "squash"):
        rows.extend((word, one, other) for one, other in pairs)
    rows.extend(("pass", branch) for branch in branches)
    rows.extend(("hear", one, other) for one, other in pairs)
    rows.extend(("mean", branch, word) for branch in branches for word in ("in", "out"))
    return rows


class AllDeeds(unittest.TestCase):
    def test_the_list_of_two_branches(self):
        self.assertTrue(same(list(all_deeds(Shape("main", "dev"))), TWO_BRANCHES))

    def test_whole_lists_twice(self):
        for shape, many in zip(SHAPES, [20, 32, 42, 69, 69]):
            for _ in range(2):
                found = list(all_deeds(shape))
                self.assertTrue(same(found, listed(shape)))
                self.assertEqual(len(found), many)
        self.assertTrue(same(list(all_deeds(shape=SHAPES[0])), TWO_BRANCHES))

    def test_the_first_ones_one_by_one(self):
        for shape in SHAPES:
            steps = all_deeds(shape)
            beside = all_deeds(shape)
            for expected in listed(shape)[:9]:
                self.assertTrue(same(next(steps), expected))
            self.assertTrue(same(next(beside), listed(shape)[0]))
            self.assertTrue(same(list(steps), listed(shape)[9:]))
            with self.assertRaises(StopIteration):
                next(steps)

    def test_picks_of_two_places(self):
        picks = [deed for deed in all_deeds(SHAPES[1]) if deed[0] == "pick"]
        self.assertEqual(picks[:5], [("pick", "main", "dev", 0, 0), ("pick", "main", "dev", 0, 1),
                                     ("pick", "main", "dev", 1, 0), ("pick", "main", "dev", 1, 1),
                                     ("pick", "dev", "main", 0, 0)])

    def test_branches_go_by_their_indexes(self):
        merges = [deed[1:] for deed in all_deeds(Shape("zoo", "main", "dev")) if deed[0] == "merge"]
        self.assertEqual(merges, [("zoo", "main"), ("zoo", "dev"), ("main", "zoo"), ("main", "dev"),
                                  ("dev", "zoo"), ("dev", "main")])


class IsDeed(unittest.TestCase):
    def check(self, shape, value):
        expected = among(value, listed(shape))
        self.assertIs(is_deed(shape, value), expected, value)

    def test_right_deeds(self):
        for shape in SHAPES:
            for deed in listed(shape):
                self.assertIs(is_deed(shape, deed), True)
        self.assertIs(is_deed(shape=SHAPES[0], value=("pass", "main")), True)

    def test_deeds_of_other_shapes(self):
        for shape in SHAPES:
            for other in SHAPES:
                for deed in listed(other):
                    self.check(shape, deed)
        self.assertIs(is_deed(SHAPES[0], ("make", "main", 1)), False)
        self.assertIs(is_deed(SHAPES[1], ("make", "main", 2)), False)
        self.assertIs(is_deed(SHAPES[1], ("pick", "main", "dev", 0, 2)), False)
        self.assertIs(is_deed(SHAPES[0], ("make", "zoo", 0)), False)

    def test_one_wrong_part(self):
        for shape in SHAPES:
            for deed in listed(shape):
                for at in range(len(deed)):
                    for value in ANY_VALUES + ["restore", "drop", "pick", "merge", "squash", "pass", "hear", "mean"]:
                        self.check(shape, deed[:at] + (value,) + deed[at + 1:])

    def test_a_part_more_or_less(self):
        for shape in SHAPES:
            for deed in listed(shape):
                for at in range(len(deed) + 1):
                    self.check(shape, deed[:at])
                    self.check(shape, deed[:at] + deed[at + 1:])
                    for value in (None, 0, 1, "main", "dev", "in", ()):
                        self.check(shape, deed[:at] + (value,) + deed[at:])

    def test_lists_are_no_deeds(self):
        for shape in SHAPES:
            for deed in listed(shape):
                self.assertIs(is_deed(shape, list(deed)), False)
                self.assertIs(is_deed(shape, (deed,)), False)
                self.assertIs(is_deed(shape, [deed]), False)
                self.assertIs(is_deed(shape, deed_text(deed)), False)

    def test_truths_are_no_places(self):
        for shape in SHAPES:
            for deed in listed(shape):
                truths = tuple(bool(item) if isinstance(item, int) else item for item in deed)
                self.assertIs(is_deed(shape, truths), same(truths, deed))
        for wrong in [("make", "main", False), ("make", "main", True), ("pick", "main", "dev", False, 0),
                      ("pick", "main", "dev", 0, True), ("drop", "dev", False)]:
            self.assertIs(is_deed(SHAPES[1], wrong), False)

    def test_the_branches_differ(self):
        for word in ("merge", "squash", "hear"):
            self.assertIs(is_deed(SHAPES[0], (word, "main", "main")), False)
            self.assertIs(is_deed(SHAPES[0], (word, "main", "dev")), True)
        self.assertIs(is_deed(SHAPES[0], ("pick", "dev", "dev", 0, 0)), False)

    def test_other_values(self):
        for shape in SHAPES:
            for value in ANY_VALUES:
                self.assertIs(is_deed(shape, value), False)


class Texts(unittest.TestCase):
    def refuse(self, shape, value):
        with self.assertRaises(InvalidDeed) as caught:
            read_deed(shape, value)
        self.assertEqual(caught.exception.code, "InvalidDeed")

    def check(self, shape, text):
        """A text is read if it is the text of a deed, and refused otherwise."""
        rows = [deed for deed in listed(shape) if " ".join(str(item) for item in deed) == text]
        if rows:
            self.assertTrue(same(read_deed(shape, text), rows[0]))
        else:
            self.refuse(shape, text)

    def test_there_and_back(self):
        for shape in SHAPES:
            for deed in listed(shape):
                text = deed_text(deed)
                self.assertEqual(text, " ".join(str(item) for item in deed))
                self.assertTrue(same(read_deed(shape, text), deed))
        self.assertEqual(deed_text(deed=("pick", "main", "dev", 0, 1)), "pick main dev 0 1")
        self.assertEqual(read_deed(shape=SHAPES[1], text="pick main dev 0 1"), ("pick", "main", "dev", 0, 1))

    def test_a_word_exchanged_left_out_or_doubled(self):
        words_to_try = ["", "0", "1", "2", "00", "01", "+1", "-0", "main", "dev", "zoo", "Main", "in", "out", "none",
                        "make", "drop", "hear", "merge", "pass", "mean", "True", "False", "\n"]
        for shape in SHAPES:
            for deed in listed(shape):
                words = deed_text(deed).split(" ")
                for at in range(len(words)):
                    self.check(shape, " ".join(words[:at] + words[at + 1:]))
                    self.check(shape, " ".join(words[:at + 1] + words[at:]))
                    if deed[0] in ("make", "pick", "pass", "mean"):
                        for word in words_to_try:
                            self.check(shape, " ".join(words[:at] + [word] + words[at + 1:]))

    def test_other_spaces(self):
        for shape in SHAPES:
            for deed in listed(shape):
                text = deed_text(deed)
                for wrong in [" " + text, text + " ", text + "\n", "\n" + text, text.replace(" ", "  "),
                              text.replace(" ", "\n"), text.replace(" ", ""), text + "\n" + text]:
                    self.refuse(shape, wrong)

    def test_values_that_are_no_texts(self):
        for shape in SHAPES:
            for value in ANY_VALUES + listed(shape):
                self.refuse(shape, value)
            for deed in listed(shape):
                self.refuse(shape, list(deed))
                self.refuse(shape, [deed_text(deed)])


if __name__ == "__main__":
    unittest.main()
