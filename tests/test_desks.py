"""Desks: commands, undos, redos and questions, lines that are none, two desks of one archive, and pages."""

import unittest

from histories import Draw, plain_shapes
from plain_archives import NAMES, PlainArchive, check_archive, drawn_command, right_command
from plain_pages import plain_answer, plain_text
from samples import same
from stillmeant.archives import Archive
from stillmeant.desks import Desk
from stillmeant.pages import page_text, read_page
from stillmeant.shapes import Shape

PLAIN = Shape("main", "dev")
SHAPES = 6 * (plain_shapes() + [Shape("if", "not", "true"), Shape("told", "undo", places=2)])
QUESTIONS = ("told", "meaning", "places")


def drawn_line(draw, plain):
    """A line that is said to a desk, right or wrong."""
    branch = draw.one_of(list(plain.shape.branches))
    name = draw.one_of(plain.names() or NAMES)
    choice = draw.below(12)
    if choice < 4:
        return plain_text(right_command(draw, plain))
    if choice < 6:
        return draw.one_of(["undo", "redo"])
    if choice < 9:
        name = draw.one_of([name, name, name, "zap"])
        branch = draw.one_of([branch, branch, branch, "zap"])
        return " ".join([draw.one_of(QUESTIONS), name, branch])
    text = plain_text(drawn_command(draw, plain.shape, plain.names() or None))
    return [text, "refusal " + text, "changes"][choice - 9]


class Checks(unittest.TestCase):
    def say(self, desk, plain, line, call=None):
        """Says a line, and checks the answer, the log and the archive."""
        before = desk.log()
        answer = plain_answer(plain, line)
        said = (call or desk.say)(line)
        self.assertEqual(said, answer, (before, line))
        self.assertTrue(same(desk.log(), before + [(line, answer)]))
        self.assertEqual((len(desk), repr(desk)), (len(before) + 1, f"Desk({len(before) + 1} lines)"))
        return answer


class Lines(Checks):
    def test_right_and_wrong_lines(self):
        answers = []
        for seed, shape in enumerate(SHAPES):
            draw = Draw(seed)
            plain = PlainArchive(shape)
            archive = Archive(shape)
            desk = Desk(archive)
            self.assertIs(desk.archive, archive)
            for line in ["change lamp", "make main lamp 0"][:draw.below(3)]:
                self.say(desk, plain, line)
            for at in range(24):
                call = desk if draw.below(2) else desk.say
                answers.append(self.say(desk, plain, drawn_line(draw, plain), call))
                check_archive(self, archive, plain, stores=at % 8 == 7)
        for answer in ("ok", "none", "0", "error Refused", "error NothingLeft", "error UnknownChange", "right", "gone",
                       "error UnknownBranch", "in", "out", "back", "0 1", "twice", "error DuplicateName"):
            self.assertIn(answer, answers)

    def test_the_example_of_the_document(self):
        desk = Desk(Archive(Shape("main", "dev")))
        lines = ["change lamp", "make dev lamp 0", "merge main dev", "merge main dev", "places lamp main",
                 "told  lamp main"]
        answers = ["ok", "ok", "ok", "error Refused", "0", "unknown"]
        self.assertEqual([desk(line) for line in lines], answers)
        self.assertEqual(desk.log(), list(zip(lines, answers)))
        self.assertEqual(repr(desk), "Desk(6 lines)")

    def test_every_question(self):
        desk = Desk(Archive(Shape("main", "dev", places=2)))
        for line, answer in [
                ("changes", "none"), ("told lamp main", "error UnknownChange"), ("undo", "error NothingLeft"),
                ("redo", "error NothingLeft"), ("refusal change lamp", "ok"), ("changes", "none"),
                ("refusal make main lamp 0", "error UnknownChange"), ("change lamp", "ok"), ("change key", "ok"),
                ("refusal change key", "error DuplicateName"), ("changes", "lamp key"),
                ("told lamp main", "right"), ("meaning lamp main", "none"), ("places lamp main", "none"),
                ("make main lamp 1", "ok"), ("refusal make main lamp 1", "error Refused"),
                ("refusal make main lamp 0", "ok"), ("places lamp main", "1"), ("make main lamp 0", "ok"),
                ("places lamp main", "0 1"), ("told lamp main", "twice"), ("meaning lamp main", "in"),
                ("mean main lamp out", "ok"), ("meaning lamp main", "out"), ("drop main lamp 0", "ok"),
                ("meaning lamp main", "in"), ("drop main lamp 1", "ok"), ("meaning lamp main", "out"),
                ("mean main lamp in", "ok"), ("told lamp main", "gone"), ("hear dev main", "ok"),
                ("mean dev lamp out", "ok"), ("mean main lamp in", "ok"), ("hear main dev", "ok"),
                ("told lamp main", "quarrel"), ("meaning lamp main", "quarrel"), ("told key main", "right"),
                ("told lamp zoo", "error UnknownBranch"), ("told zap zoo", "error UnknownChange"),
                ("refusal merge main dev", "error Refused"), ("refusal merge dev main", "ok"), ("undo", "ok"),
                ("meaning lamp main", "in"), ("redo", "ok"), ("redo", "error NothingLeft"), ("changes", "lamp key")]:
            self.assertEqual(desk.say(line), answer, line)
        self.assertEqual(len(desk), 46)

    def test_refusals_change_nothing(self):
        for seed, shape in enumerate(SHAPES[:22]):
            draw = Draw(100 + seed)
            plain = PlainArchive(shape)
            desk = Desk(Archive(shape))
            for _ in range(6):
                self.say(desk, plain, plain_text(right_command(draw, plain)))
            desk.archive.undo()
            plain.undo()
            for _ in range(10):
                text = plain_text(drawn_command(draw, shape, plain.names() or None))
                error = plain.error(tuple(int(item) if item in ("0", "1") else item for item in text.split(" ")))
                answer = self.say(desk, plain, "refusal " + text)
                self.assertEqual(answer, "ok" if error is None else "error " + error[0])
                check_archive(self, desk.archive, plain)
            self.assertEqual(desk.archive.history(), (5, 1))

    def test_the_bounds(self):
        desk = Desk(Archive(PLAIN))
        for name in NAMES[:6]:
            self.assertEqual(desk.say("change " + name), "ok")
        self.assertEqual(desk.say("change more"), "error TooMany")
        self.assertEqual(desk.say("refusal change more"), "error TooMany")
        self.assertEqual(desk.say("changes"), " ".join(NAMES[:6]))
        desk.archive.run(*[("pass", "main")] * 194)
        for line in ("pass main", "refusal pass main", "refusal merge dev main", "mean main lamp in"):
            self.assertEqual(desk.say(line), "error TooMany")
        self.assertEqual([desk.say("undo"), desk.say("pass main")], ["ok", "ok"])

    def test_undo_takes_a_whole_run_back(self):
        archive = Archive(PLAIN)
        desk = Desk(archive)
        archive.run(("change", "lamp"), ("make", "main", "lamp", 0))
        archive.run()
        self.assertEqual([desk.say("undo"), desk.say("places lamp main"), desk.say("undo"), desk.say("changes")],
                         ["ok", "0", "ok", "none"])
        self.assertEqual(archive.history(), (0, 2))

    def test_returned_lists_are_new(self):
        desk = Desk(archive=Archive(PLAIN))
        desk.say(line="pass main")
        desk.log().append(None)
        self.assertEqual((desk.log(), len(desk)), ([("pass main", "ok")], 1))
        self.assertEqual(desk(line="undo"), "ok")

    def test_a_new_desk(self):
        desk = Desk(Archive(PLAIN))
        self.assertEqual((desk.log(), len(desk), repr(desk)), ([], 0, "Desk(0 lines)"))


class OtherLines(Checks):
    def test_changed_lines(self):
        answers = []
        for seed, shape in enumerate(SHAPES):
            draw = Draw(200 + seed)
            plain = PlainArchive(shape)
            desk = Desk(Archive(shape))
            for _ in range(5):
                self.say(desk, plain, plain_text(right_command(draw, plain)))
            for _ in range(10):
                words = drawn_line(draw, plain).split(" ")
                at = draw.below(len(words))
                value = draw.one_of(["", "zap", "main", "0", "1", "2", "00", "lamp", "Lamp", "undo", "in", "refusal",
                                     "told", "changes", "none", "toolongname", "pass"])
                for start, end in [(words[:at] + [value], words[at + 1:]), (words[:at], words[at + 1:]),
                                   (words[:at] + [value], words[at:]), (words[:at + 1], words[at:]),
                                   (words, [value]), ([""], words), (words, [""])]:
                    answers.append(self.say(desk, plain, " ".join(start + end)))
                answers.append(self.say(desk, plain, "  ".join(words)))
            check_archive(self, desk.archive, plain, stores=True)
        self.assertGreater(answers.count("unknown"), 1000)
        for answer in ("ok", "error UnknownChange", "error UnknownBranch", "error Refused"):
            self.assertGreater(answers.count(answer), 10)

    def test_lines_that_are_none(self):
        desk = Desk(Archive(PLAIN))
        desk.say("change lamp")
        state = page_text(desk.archive)
        for line in ["", " ", "undo ", " undo", "undo undo", "redo 1", "changes lamp", "change", "change Lamp",
                     "change a b", "told", "told lamp", "told lamp main dev", "told lamp main ", "told lamp  main",
                     "meaning lamp",
                     "places lamp", "places", "refusal", "refusal undo", "refusal redo", "refusal changes",
                     "refusal told lamp main", "refusal refusal pass main", "refusal pass zoo", "refusal pass main ",
                     "pass zoo", "pass main dev", "make main lamp", "make main lamp 1", "make main lamp 00",
                     "make zoo lamp 0", "make main lamp -1", "mean main lamp none", "merge main main", "UNDO", "ok",
                     "unknown", "error", "Told lamp main", "commands", "bad", "history", "shape main dev 1 1100 newest",
                     "pick main dev lamp 0", "pick main main lamp 0 0", "change lamp\n", "pass main\n", "undo\n"]:
            self.assertEqual(desk.say(line), "unknown", line)
            self.assertEqual(desk.log()[-1], (line, "unknown"))
        self.assertEqual((page_text(desk.archive), desk.archive.history()), (state, (1, 0)))

    def test_names_that_are_words_of_the_desk(self):
        desk = Desk(Archive(Shape("if", "not", "told")))
        for line, answer in [("change undo", "ok"), ("change told", "ok"), ("change change", "ok"),
                             ("changes", "undo told change"), ("make if undo 0", "ok"), ("told undo if", "right"),
                             ("told told told", "right"), ("mean told told in", "ok"), ("told told told", "gone"),
                             ("meaning change not", "none"), ("places undo if", "0"), ("pick told if undo 0 0", "ok"),
                             ("refusal change undo", "error DuplicateName"), ("refusal drop told undo 0", "ok"),
                             ("undo", "ok"), ("places undo told", "none"), ("change if", "ok"),
                             ("told if if", "right"), ("changes", "undo told change if")]:
            self.assertEqual(desk.say(line), answer, line)


class TwoDesks(Checks):
    def test_two_desks_of_one_archive(self):
        for seed, shape in enumerate(SHAPES):
            draw = Draw(300 + seed)
            archive = Archive(shape)
            plain = PlainArchive(shape)
            desks = [Desk(archive), Desk(archive)]
            logs = [[], []]
            for _ in range(20):
                which = draw.below(3)
                if which == 2:
                    command = right_command(draw, plain)
                    archive.do(command)
                    plain.run(command)
                else:
                    line = drawn_line(draw, plain)
                    logs[which].append((line, self.say(desks[which], plain, line)))
                for desk, log in zip(desks, logs):
                    self.assertEqual((desk.log(), len(desk)), (log, len(log)))
                    self.assertIs(desk.archive, archive)
            for line in ["changes"] + [f"told {name} {branch}" for name in plain.names() for branch in shape.branches]:
                self.assertEqual(self.say(desks[0], plain, line), self.say(desks[1], plain, line))
            check_archive(self, archive, plain, stores=True)

    def test_the_archive_of_a_desk_is_the_very_archive(self):
        archive = Archive(PLAIN)
        desk = Desk(archive)
        desk.say("change lamp")
        self.assertEqual(archive.changes(), ["lamp"])
        archive.do(("make", "main", "lamp", 0))
        self.assertEqual(desk.say("places lamp main"), "0")
        twin = Desk(archive.twin())
        twin.say("drop main lamp 0")
        self.assertEqual((desk.say("places lamp main"), twin.say("places lamp main")), ("0", "none"))


class PagesAndDesks(Checks):
    def test_the_commands_of_a_page(self):
        for seed, shape in enumerate(SHAPES):
            draw = Draw(400 + seed)
            plain = PlainArchive(shape)
            for _ in range(20):
                plain.run(right_command(draw, plain))
            text = "".join(line + "\n" for line in [shape.text] + [plain_text(each) for each in plain.commands])
            read = read_page(text)
            desk = Desk(Archive(shape))
            lines = text.split("\n")[1:-1]
            self.assertEqual([desk.say(line) for line in lines], ["ok"] * 20)
            self.assertEqual((desk.archive.history(), read.history()), ((20, 0), (0, 0)))
            self.assertIs(desk.archive == read, True)
            self.assertEqual(page_text(desk.archive), text)
            check_archive(self, desk.archive, plain, stores=True)
            reader = Desk(read)
            self.assertEqual([reader.say("undo"), reader.say("redo")], ["error NothingLeft"] * 2)
            self.assertEqual(desk.say("undo"), "ok")
            self.assertIs(desk.archive == read, False)


if __name__ == "__main__":
    unittest.main()
