"""Pages: texts of commands there and back, pages of archives, and texts that are wrong at any place."""

import unittest

from histories import Draw, plain_shapes
from plain_archives import PlainArchive, check_archive, drawn_command, right_command
from plain_pages import plain_page, plain_read, plain_text
from samples import ANY_VALUES, same
from stillmeant.archives import Archive
from stillmeant.errors import InvalidCommand, InvalidText
from stillmeant.pages import command_text, page_text, read_command, read_page
from stillmeant.shapes import Shape

PLAIN = Shape("main", "dev")
WIDE = Shape("main", "dev", "zoo", places=2)
SHAPES = plain_shapes() + [Shape("if", "in"), Shape("change", "undo", "mean", places=2)]
PAGE = ("shape main dev 1 1100 newest\nchange lamp\nmake dev lamp 0\nmerge main dev\nchange key\n"
        "mean main key in\npick main dev lamp 0 0\n")
RIGHT = PAGE.replace("pick main dev lamp 0 0\n", "drop main lamp 0\npick main dev lamp 0 0\nhear dev main\n")


def filled(seed, shape, many):
    """An archive with so many commands, and the plain one with the same."""
    draw = Draw(seed)
    archive = Archive(shape)
    plain = PlainArchive(shape)
    for _ in range(many):
        command = right_command(draw, plain)
        archive.do(command)
        plain.run(command)
    return archive, plain


class Texts(unittest.TestCase):
    def refuse(self, shape, value):
        with self.assertRaises(InvalidCommand) as caught:
            read_command(shape, value)
        self.assertTrue(same(caught.exception.at, 0))
        self.assertEqual(caught.exception.code, "InvalidCommand")

    def check(self, shape, text):
        command = plain_read(shape, text)
        if command is None:
            self.refuse(shape, text)
        else:
            self.assertTrue(same(read_command(shape, text), command))
            self.assertEqual(command_text(command), text)
        return command is not None

    def test_commands_and_texts(self):
        for seed, shape in enumerate(SHAPES):
            draw = Draw(seed)
            for _ in range(60):
                command = drawn_command(draw, shape)
                text = plain_text(command)
                self.assertEqual(command_text(command), text)
                self.assertTrue(same(read_command(shape, text), command))

    def test_every_form(self):
        for command, text in [
                (("change", "lamp"), "change lamp"), (("make", "dev", "lamp", 1), "make dev lamp 1"),
                (("restore", "dev", "lamp", 0), "restore dev lamp 0"), (("drop", "zoo", "a", 1), "drop zoo a 1"),
                (("pick", "main", "dev", "lamp", 0, 1), "pick main dev lamp 0 1"),
                (("mean", "main", "lamp", "out"), "mean main lamp out"), (("merge", "main", "zoo"), "merge main zoo"),
                (("squash", "zoo", "main"), "squash zoo main"), (("pass", "dev"), "pass dev"),
                (("hear", "dev", "main"), "hear dev main")]:
            self.assertEqual(command_text(command), text)
            self.assertTrue(same(read_command(WIDE, text), command))

    def test_changed_texts(self):
        found = []
        for seed, shape in enumerate(SHAPES):
            draw = Draw(100 + seed)
            for _ in range(20):
                words = plain_text(drawn_command(draw, shape)).split(" ")
                at = draw.below(len(words))
                for value in ["", "0", "1", "2", "00", "01", "+0", "-1", "0.0", "lamp", "main", "dev", "zap", "in",
                              "out", "none", "Lamp", "toolongname", "make", "merge", "a\n", "change", "undo"]:
                    found.append(self.check(shape, " ".join(words[:at] + [value] + words[at + 1:])))
                    found.append(self.check(shape, " ".join(words[:at] + [value] + words[at:])))
                found.append(self.check(shape, " ".join(words[:at] + words[at + 1:])))
                found.append(self.check(shape, " ".join(words[:at] + words[at:at + 1] + words[at:])))
                for text in [" ".join(words) + " ", " " + " ".join(words), " ".join(words) + "\n",
                             "  ".join(words), "".join(words), "\n".join(words), "refusal " + " ".join(words)]:
                    found.append(self.check(shape, text))
        self.assertGreater(found.count(True), 300)
        self.assertGreater(found.count(False), 3000)

    def test_places_are_digits_alone(self):
        for text in ["make dev lamp 1", "make dev lamp 00", "make dev lamp +0", "make dev lamp -0", "make dev lamp 0x0",
                     "make dev lamp 0 ", "make dev lamp zero", "pick main dev lamp 0 1", "make dev 0 lamp",
                     "make dev 0 0", "change 0", "change 1", "mean dev 0 in", "merge main 0"]:
            self.refuse(PLAIN, text)
        self.assertTrue(same(read_command(WIDE, "make dev lamp 1"), ("make", "dev", "lamp", 1)))
        self.refuse(WIDE, "make dev lamp 2")

    def test_other_values(self):
        for value in ANY_VALUES:
            self.refuse(PLAIN, value)
        for value in [("pass", "main"), ["pass", "main"], ("pass main",), ["pass main"]]:
            self.refuse(PLAIN, value)

    def test_arguments_by_name(self):
        self.assertEqual(command_text(command=("pass", "main")), "pass main")
        self.assertEqual(read_command(text="pass main", shape=PLAIN), ("pass", "main"))
        self.assertEqual(page_text(archive=Archive(shape=PLAIN)), "shape main dev 1 1100 newest\n")
        self.assertEqual(read_page(text=PAGE.replace("pick main dev lamp 0 0\n", "")).changes(), ["lamp", "key"])


class Pages(unittest.TestCase):
    def test_there_and_back(self):
        for seed, shape in enumerate(SHAPES):
            for many in (0, 1, 7, 24):
                archive, plain = filled(seed, shape, many)
                text = "".join(line + "\n" for line in [shape.text] + [plain_text(each) for each in plain.commands])
                self.assertEqual(page_text(archive), text)
                read = read_page(text)
                self.assertIs(type(read), Archive)
                self.assertIs(read == archive, True)
                self.assertEqual((read.history(), archive.history()), ((0, 0), (many, 0)))
                plain.steps = plain.steps[-1:]
                check_archive(self, read, plain, stores=True)
                self.assertEqual(page_text(read), text)

    def test_neither_archive_affects_the_other(self):
        for seed, shape in enumerate(SHAPES):
            archive, plain = filled(50 + seed, shape, 9)
            read = read_page(page_text(archive))
            other = plain.twin()
            other.steps = other.steps[-1:]
            draw = Draw(seed)
            for _ in range(4):
                for one, model in ((archive, plain), (read, other)):
                    command = right_command(draw, model)
                    one.do(command)
                    model.run(command)
                    check_archive(self, archive, plain)
                    check_archive(self, read, other)
            archive.undo()
            plain.undo()
            check_archive(self, read, other, stores=True)
            check_archive(self, archive, plain, stores=True)

    def test_undone_steps_are_not_on_the_page(self):
        archive = Archive(PLAIN)
        archive.do(("change", "lamp"))
        archive.run(("pass", "main"), ("pass", "dev"))
        archive.do(("change", "key"))
        archive.undo()
        self.assertEqual(page_text(archive), "shape main dev 1 1100 newest\nchange lamp\npass main\npass dev\n")
        self.assertEqual(archive.history(), (2, 1))

    def test_steps_behind_reading(self):
        read = read_page(RIGHT)
        read.do(("pass", "main"))
        self.assertEqual(read.history(), (1, 0))
        read.undo()
        self.assertEqual((read.history(), page_text(read)), ((0, 1), RIGHT))
        self.assertEqual(read.twin().history(), (0, 1))

    def test_two_hundred_commands(self):
        text = "shape main dev 1 1100 newest\n" + "pass main\n" * 200
        self.assertEqual(len(read_page(text).commands()), 200)
        self.assertEqual(page_text(read_page(text)), text)


class WrongPages(unittest.TestCase):
    def refuse(self, value, at):
        with self.assertRaises(InvalidText) as caught:
            read_page(value)
        self.assertTrue(same(caught.exception.at, at), (value, caught.exception.at, at))
        self.assertEqual(caught.exception.code, "InvalidText")

    def check(self, text):
        found = plain_page(text)
        if isinstance(found, int):
            self.refuse(text, found)
        else:
            self.assertEqual(page_text(read_page(text)), text)
        return isinstance(found, int)

    def test_a_wrong_line_at_any_place(self):
        lines = RIGHT.split("\n")[:-1]
        self.assertFalse(self.check(RIGHT))
        for at in range(len(lines) + 1):
            for value in ["", " ", "change", "change Lamp", "change lamp ", "make dev lamp 1", "merge main zoo", "undo",
                          "pass main dev", "shape main dev 1 1100", "changes", "told lamp main", "pass  dev"]:
                self.refuse("\n".join(lines[:at] + [value] + lines[at:]) + "\n", at)
                self.refuse("\n".join(lines[:at] + [value, "wrong"] + lines[at:]), at)
                if value:
                    self.refuse("\n".join(lines[:at] + [value]), at)

    def test_the_shape_twice(self):
        lines = RIGHT.split("\n")[:-1]
        for at in range(1, len(lines) + 1):
            self.refuse("\n".join(lines[:at] + lines[:1] + lines[at:]) + "\n", at)

    def test_refused_commands(self):
        first = "shape main dev 1 1100 newest\n"
        for text, at in [("merge main dev\n", 1), ("change a\nchange a\n", 2), ("make dev a 0\n", 1),
                         ("change a\nmake dev a 0\nmake dev a 0\n", 3), ("change a\ndrop dev a 0\n", 2),
                         ("change a\nmake dev a 0\nmerge main dev\nsquash main dev\n", 4),
                         ("pass dev\nchange a\nmerge main dev\nmerge main dev\nwrong", 4)]:
            self.refuse(first + text, at)
        names = "".join(f"change {name}\n" for name in "abcdef")
        self.refuse(first + names + "change g\n", 7)
        self.refuse(first + "pass main\n" * 201, 201)
        self.refuse(first + "pass main\n" * 400, 201)
        self.refuse(first + "pass main\n" * 200 + "wrong\n", 201)

    def test_lines_doubled_exchanged_and_left_out(self):
        wrong = []
        for seed, shape in enumerate(SHAPES):
            archive, _ = filled(70 + seed, shape, 10)
            lines = page_text(archive).split("\n")[:-1]
            for at in range(len(lines)):
                for rows in [lines[:at] + lines[at:at + 1] + lines[at:], lines[:at] + lines[at + 1:],
                             lines[:at] + lines[at + 1:at + 2] + lines[at:at + 1] + lines[at + 2:], lines[:at],
                             lines[:at] + [lines[at] + " "] + lines[at + 1:]]:
                    wrong.append(self.check("".join(line + "\n" for line in rows)))
        self.assertGreater(wrong.count(True), 300)
        self.assertGreater(wrong.count(False), 100)

    def test_line_feeds_left_out(self):
        for text in [RIGHT, "shape main dev 1 1100 newest\n", "shape main dev zoo 2 1100 any\npass zoo\n"]:
            for at, sign in enumerate(text):
                if sign == "\n":
                    self.check(text[:at] + text[at + 1:])
                    self.check(text[:at] + "\n" + text[at:])
                    self.check(text[:at])
                    self.check(text[:at] + " " + text[at + 1:])
            self.check("\n" + text)
            self.refuse(text[:-1], text.count("\n") - 1)

    def test_signs_left_out(self):
        for at in range(len(RIGHT)):
            self.check(RIGHT[:at] + RIGHT[at + 1:])
            self.check(RIGHT[:at] + RIGHT[at:at + 1] + RIGHT[at:])
            self.check(RIGHT[:at])

    def test_other_values(self):
        for value in ANY_VALUES:
            self.refuse(value, 0)
        for value in [[PAGE], (PAGE,), PAGE.split("\n"), Archive(PLAIN), "shape main dev 1 1100 newest", "\n\n"]:
            self.refuse(value, 0)
        self.assertEqual(len(read_page("shape main dev 1 1100 newest\n")), 0)


if __name__ == "__main__":
    unittest.main()
