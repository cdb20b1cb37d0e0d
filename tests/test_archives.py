"""Archives: right and wrong commands, runs, undos and redos, twins, bounds, and each change by itself."""

import unittest
from unittest import mock

from histories import Draw, plain_shapes
from plain_archives import (NAMES, PlainArchive, check_archive, check_log, deeds_for, drawn_command, is_plain_command,
                            name_in, names_in, plain_store, right_command)
from samples import ANY_VALUES, others, same
from stillmeant import errors
from stillmeant.archives import Archive
from stillmeant.deeds import all_deeds
from stillmeant.shapes import Shape
from stillmeant.stores import Store

PLAIN = Shape("main", "dev")
SHAPES = 3 * (plain_shapes() + [PLAIN, Shape("main", "dev", "zoo", places=2, table="0111", bases="refuse"),
                                Shape("main", "dev", table="0011", bases="any")])
# What an error tells beside its code.
VALUES = {"InvalidCommand": "at", "DuplicateName": "name", "TooMany": "most", "UnknownChange": "name",
          "Refused": "word", "UnknownBranch": "name"}


def filled(shape, *commands):
    archive = Archive(shape)
    for command in commands:
        archive.do(command)
    return archive


def state(archive):
    """Everything that an archive tells."""
    names = archive.changes()
    return (archive.shape.text, names, archive.commands(), archive.history(), archive.busy, archive.bad(),
            len(archive), repr(archive),
            [(archive.told(name, branch), archive.contents(name, branch), archive.meaning(name, branch))
             for name in names for branch in archive.shape.branches],
            [(archive.store(name).log(), archive.store(name).versions(), archive.store(name).words())
             for name in names])


class Checks(unittest.TestCase):
    def expect(self, error, call, *values):
        """A call raises this error, a pair of its name and its value."""
        code, value = error
        with self.assertRaises(getattr(errors, code)) as caught:
            call(*values)
        self.assertIs(type(caught.exception), getattr(errors, code))
        self.assertEqual(caught.exception.code, code)
        self.assertTrue(same(getattr(caught.exception, VALUES[code]), value), (value, values))

    def run_both(self, archive, plain, *commands):
        """Runs commands, or sees the error with which they are refused."""
        error = plain.error(*commands)
        if error is None:
            self.assertIsNone(archive.run(*commands))
            plain.run(*commands)
        else:
            before = (archive.commands(), archive.history())
            self.expect(error, archive.run, *commands)
            self.assertEqual((archive.commands(), archive.history(), archive.busy), (*before, False))
        return error


class Commands(Checks):
    def test_right_and_wrong_commands(self):
        codes = []
        for seed, shape in enumerate(SHAPES):
            draw = Draw(seed)
            archive = Archive(shape)
            plain = PlainArchive(shape)
            for at in range(24):
                command = right_command(draw, plain)
                if draw.below(2):
                    command = drawn_command(draw, shape, draw.one_of([None, plain.names() or None]))
                error = plain.error(command)
                if error is None:
                    self.assertIsNone(archive.do(command))
                    plain.run(command)
                else:
                    codes.append(error[0])
                    before = state(archive)
                    self.expect(error, archive.do, command)
                    self.assertEqual(state(archive), before)
                if at % 4 == 3:
                    check_archive(self, archive, plain, stores=True)
            check_archive(self, archive, plain, stores=True)
        for code in ("DuplicateName", "UnknownChange", "Refused"):
            self.assertGreater(codes.count(code), 10)

    def test_six_changes(self):
        for seed, shape in enumerate(SHAPES[::2]):
            draw = Draw(100 + seed)
            archive = Archive(shape)
            plain = PlainArchive(shape)
            for name in NAMES:
                for command in [("change", name), right_command(draw, plain), ("change", name),
                                right_command(draw, plain)]:
                    self.run_both(archive, plain, command)
            self.assertEqual(len(archive), 6)
            check_archive(self, archive, plain, stores=True)

    def test_an_empty_archive(self):
        for shape in SHAPES:
            archive = Archive(shape)
            check_archive(self, archive, PlainArchive(shape))
            self.assertTrue(same((archive.changes(), archive.commands(), archive.bad()), ([], [], [])))
            self.assertEqual((len(archive), repr(archive), archive.history()), (0, "Archive(0 changes)", (0, 0)))

    def test_an_example(self):
        archive = filled(PLAIN, ("change", "lamp"), ("make", "dev", "lamp", 0), ("change", "key"),
                         ("merge", "main", "dev"), ("mean", "main", "key", "in"), ("drop", "main", "lamp", 0),
                         ("hear", "dev", "main"))
        self.assertEqual(archive.changes(), ["lamp", "key"])
        self.assertEqual([archive.told("lamp", branch) for branch in PLAIN.branches], ["right", "back"])
        self.assertEqual([archive.told("key", branch) for branch in PLAIN.branches], ["gone", "gone"])
        self.assertEqual(archive.bad(), [("key", "dev"), ("key", "main"), ("lamp", "dev")])
        self.assertEqual(archive.contents("lamp", "dev"), (0,))
        self.assertEqual(archive.meaning("lamp", "main"), "out")
        self.assertEqual(archive.store("lamp").log(), [("make", "dev", 0), ("merge", "main", "dev"),
                                                       ("drop", "main", 0), ("hear", "dev", "main")])
        self.assertEqual(archive.store("key").log(), [("pass", "dev"), ("merge", "main", "dev"), ("mean", "main", "in"),
                                                      ("pass", "main"), ("hear", "dev", "main")])

    def test_merges_without_changes(self):
        archive = Archive(PLAIN)
        self.expect(("Refused", "held"), archive.do, ("merge", "main", "dev"))
        archive.do(("pass", "dev"))
        archive.do(("merge", "main", "dev"))
        self.expect(("Refused", "held"), archive.do, ("squash", "main", "dev"))
        archive.do(("change", "lamp"))
        self.expect(("Refused", "held"), archive.do, ("merge", "main", "dev"))
        self.assertEqual(archive.store("lamp").past("main"), [0, 1])
        crossed = filled(Shape("main", "dev", bases="refuse"), ("pass", "main"), ("pass", "dev"),
                         ("merge", "main", "dev"), ("pass", "dev"), ("merge", "dev", "main"), ("merge", "main", "dev"))
        self.assertEqual(len(crossed.commands()), 6)

    def test_crossed_merges(self):
        shape = Shape("main", "dev", "zoo", bases="refuse")
        plain = PlainArchive(shape)
        archive = Archive(shape)
        rows = [("pass", "main"), ("pass", "dev"), ("merge", "zoo", "main"), ("merge", "zoo", "dev"),
                ("change", "lamp"), ("make", "main", "lamp", 0), ("merge", "main", "dev"), ("merge", "dev", "main"),
                ("merge", "zoo", "main"), ("merge", "main", "zoo"), ("merge", "zoo", "dev"), ("merge", "dev", "zoo")]
        errors_seen = [self.run_both(archive, plain, command) for command in rows + rows]
        check_archive(self, archive, plain, stores=True)
        self.assertIn(("Refused", "crossed"), errors_seen)
        bare = Archive(shape)
        alone = PlainArchive(shape)
        for command in rows:
            shared = command if command[0] == "merge" else ("pass", command[1])
            if command[0] != "change":
                self.run_both(bare, alone, shared)
        self.assertIn(("Refused", "crossed"), [alone.error(command) for command in rows if command[0] == "merge"])

    def test_values_that_are_in_it(self):
        archive = filled(PLAIN, ("change", "lamp"), ("change", "in"))
        for value in others("lamp", "in"):
            self.assertIs(value in archive, False)
        self.assertTrue("lamp" in archive and "in" in archive and "Lamp" not in archive)

    def test_unknown_changes_and_branches(self):
        archive = filled(PLAIN, ("change", "lamp"), ("change", "main"))
        before = state(archive)
        for value in others("lamp", "main"):
            self.expect(("UnknownChange", value), archive.store, value)
            for ask in (archive.told, archive.contents, archive.meaning):
                self.expect(("UnknownChange", value), ask, value, "main")
                self.expect(("UnknownChange", value), ask, value, value)
        for value in others("main", "dev"):
            for ask in (archive.told, archive.contents, archive.meaning):
                self.expect(("UnknownBranch", value), ask, "lamp", value)
        self.assertEqual(state(archive), before)
        self.assertEqual(archive.told("main", "main"), "right")

    def test_equality(self):
        archive = filled(PLAIN, ("change", "lamp"), ("pass", "main"))
        self.assertIs(archive == filled(PLAIN, ("change", "lamp"), ("pass", "main")), True)
        several = Archive(PLAIN)
        several.run(("change", "lamp"), ("pass", "main"))
        self.assertIs(archive == several, True)
        self.assertIs(archive != several, False)
        for other in [filled(PLAIN, ("change", "lamp")), filled(PLAIN, ("pass", "main"), ("change", "lamp")),
                      filled(PLAIN, ("change", "key"), ("pass", "main")), Archive(PLAIN),
                      filled(PLAIN.changed(places=2), ("change", "lamp"), ("pass", "main")),
                      filled(Shape("dev", "main"), ("change", "lamp"), ("pass", "main")), Store(PLAIN)] + ANY_VALUES:
            self.assertIs(archive == other, False)
            self.assertIs(archive != other, True)

    def test_the_store_stays_apart(self):
        archive = filled(PLAIN, ("change", "lamp"), ("make", "dev", "lamp", 0))
        before = state(archive)
        store = archive.store("lamp")
        store.do(("drop", "dev", 0), ("mean", "main", "in"))
        store.undo()
        store.undo()
        store.undo()
        self.assertEqual(len(store), 0)
        self.assertEqual(state(archive), before)
        kept = archive.store("lamp")
        archive.do(("drop", "dev", "lamp", 0))
        archive.undo()
        archive.undo()
        self.assertEqual(kept.log(), [("make", "dev", 0)])

    def test_returned_lists_are_new(self):
        archive = filled(PLAIN, ("change", "lamp"), ("mean", "dev", "lamp", "in"))
        before = state(archive)
        for ask in (archive.changes, archive.commands, archive.bad):
            found = ask()
            self.assertIsInstance(found, list)
            found.clear()
            found.append(None)
            self.assertEqual(state(archive), before)

    def test_arguments_by_name(self):
        archive = Archive(shape=PLAIN)
        archive.do(command=("change", "lamp"))
        self.assertEqual((archive.told(branch="main", name="lamp"), archive.contents(branch="main", name="lamp"),
                          archive.meaning(branch="main", name="lamp")), ("right", (), "none"))
        self.assertEqual(archive.store(name="lamp"), Store(PLAIN))


class LateChanges(Checks):
    def test_stores_of_late_changes(self):
        for seed, shape in enumerate(SHAPES):
            draw = Draw(200 + seed)
            archive = Archive(shape)
            plain = PlainArchive(shape)
            for _ in range(10):
                self.run_both(archive, plain, right_command(draw, plain))
            late = [name for name in NAMES if name not in plain.names()][0]
            if len(plain.names()) == 6:
                continue
            self.run_both(archive, plain, ("change", late))
            check_log(self, archive.store(late), plain.store(late))
            self.assertEqual(archive.store(late).words(), [])
            versions = archive.store(late).versions()
            for name in plain.names():
                found = archive.store(name).versions()
                self.assertEqual([(branch, parents) for branch, _, parents in found],
                                 [(branch, parents) for branch, _, parents in versions])
                for branch in shape.branches:
                    self.assertEqual(archive.store(name).past(branch), archive.store(late).past(branch))
            self.assertTrue(all(contents == () or shape.table != "1100" for _, contents, _ in versions))
            for _ in range(8):
                self.run_both(archive, plain, right_command(draw, plain))
            check_archive(self, archive, plain, stores=True)

    def test_the_archive_stays_when_the_store_goes_on(self):
        for seed, shape in enumerate(SHAPES[::4]):
            draw = Draw(300 + seed)
            archive = Archive(shape)
            plain = PlainArchive(shape)
            self.run_both(archive, plain, ("pass", "main"), ("change", "lamp"))
            for _ in range(6):
                store = archive.store("lamp")
                self.assertEqual(store, archive.store("lamp"))
                store.do(*[deed for deed in all_deeds(shape) if store.moment.refusal(deed) == ""][:1])
                check_archive(self, archive, plain, stores=True)
                self.run_both(archive, plain, right_command(draw, plain))


class Wrong(Checks):
    """Commands with one wrong part among right ones."""

    def wrong_values(self, shape, draw):
        command = drawn_command(draw, shape)
        at = draw.below(len(command))
        rows = [list(command), command + (0,), command[:-1], command[:at] + command[at + 1:], (command,),
                command[:at] + (command[at],) + command[at:], " ".join(map(str, command)), draw.one_of(ANY_VALUES)]
        for value in [True, False, "", "Lamp", "toolongname", 2, -1, None, "none", ("main",), [0], "0",
                      draw.one_of(ANY_VALUES)]:
            rows.append(command[:at] + (value,) + command[at + 1:])
        return [value for value in rows if not is_plain_command(shape, value)]

    def test_one_wrong_command_at_any_place(self):
        for seed, shape in enumerate(SHAPES):
            draw = Draw(400 + seed)
            plain = PlainArchive(shape)
            archive = Archive(shape)
            self.run_both(archive, plain, ("change", "lamp"), ("pass", "main"))
            archive.undo()
            archive.redo()
            before = state(archive)
            for value in self.wrong_values(shape, draw):
                self.expect(("InvalidCommand", 0), archive.do, value)
                rows = [right_command(draw, plain) for _ in range(draw.below(4))]
                at = draw.below(len(rows) + 1)
                self.expect(("InvalidCommand", at), archive.run, *rows[:at], value, *rows[at:])
                self.expect(("InvalidCommand", at), archive.run, *rows[:at], value, *rows[at:], None)
                self.assertIs(archive.busy, False)
            self.assertEqual(state(archive), before)
            self.run_both(archive, plain, right_command(draw, plain))
            check_archive(self, archive, plain)

    def test_any_value(self):
        archive = filled(PLAIN, ("change", "lamp"))
        for value in ANY_VALUES:
            self.expect(("InvalidCommand", 0), archive.do, value)
            self.expect(("InvalidCommand", 0), archive.run, value)
            self.expect(("InvalidCommand", 1), archive.run, ("pass", "main"), value)
        self.assertEqual(archive.history(), (1, 0))

    def test_every_form(self):
        right = [("change", "a"), ("make", "main", "a", 0), ("restore", "main", "a", 0), ("drop", "main", "a", 0),
                 ("pick", "main", "dev", "a", 0, 0), ("mean", "main", "a", "in"), ("merge", "main", "dev"),
                 ("squash", "main", "dev"), ("pass", "main"), ("hear", "main", "dev")]
        archive = Archive(PLAIN)
        for command in right:
            with self.assertRaises((errors.InvalidCommand, errors.Refused, errors.UnknownChange)) as caught:
                archive.run(command, ("merge", "main", "dev"), ("merge", "main", "dev"), ("merge", "main", "dev"))
            self.assertNotIsInstance(caught.exception, errors.InvalidCommand)
            for at in range(len(command)):
                for value in ("zap" if at else "undo", True, None, 7, "main zoo", ("main",)):
                    changed = command[:at] + (value,) + command[at + 1:]
                    if not is_plain_command(PLAIN, changed):
                        self.expect(("InvalidCommand", 0), archive.do, changed)
        for command in [("merge", "main", "main"), ("pick", "dev", "dev", "a", 0, 0), ("make", "main", "a", 1),
                        ("mean", "main", "a", "none"), ("merge", "main", "a", "dev"), ("pass", "main", "a"),
                        ("make", "main", 0, "a"), ("make", "main", 0), ("undo",), ("mean", "main", "in"),
                        ("change",), ("change", "a", "b"), ("change", "main dev"), ("hear", "dev", "a", "main")]:
            self.expect(("InvalidCommand", 0), archive.do, command)

    def test_invalid_commands_come_first(self):
        archive = filled(PLAIN, ("change", "lamp"))
        self.expect(("InvalidCommand", 2), archive.run, ("change", "lamp"), ("merge", "main", "dev"), ("pass", "zoo"))
        self.expect(("DuplicateName", "lamp"), archive.run, ("change", "lamp"), ("merge", "main", "dev"))
        self.expect(("Refused", "held"), archive.run, ("merge", "main", "dev"), ("change", "lamp"))
        self.expect(("UnknownChange", "key"), archive.run, ("make", "main", "key", 0), ("merge", "main", "dev"))
        self.expect(("UnknownChange", "key"), archive.do, ("pick", "main", "dev", "key", 0, 0))
        self.expect(("UnknownChange", "key"), archive.do, ("mean", "main", "key", "in"))
        self.assertEqual(archive.history(), (1, 0))


class Runs(Checks):
    def test_up_to_four_commands(self):
        codes = []
        for seed, shape in enumerate(SHAPES):
            draw = Draw(500 + seed)
            archive = Archive(shape)
            plain = PlainArchive(shape)
            for _ in range(10):
                ahead = plain.twin()
                commands = []
                for _ in range(draw.below(5)):
                    command = right_command(draw, ahead) if draw.below(6) else drawn_command(draw, shape)
                    if ahead.error(command) is None:
                        ahead.run(command)
                    commands.append(command)
                error = self.run_both(archive, plain, *commands)
                codes.append(error[0] if error else len(commands))
                check_archive(self, archive, plain)
            check_archive(self, archive, plain, stores=True)
        for code in (0, 1, 2, 3, 4, "Refused", "UnknownChange"):
            self.assertGreater(codes.count(code), 4)

    def test_a_run_that_is_refused_late(self):
        archive = filled(PLAIN, ("change", "lamp"), ("make", "dev", "lamp", 0))
        archive.do(("pass", "main"))
        archive.undo()
        before = state(archive)
        self.expect(("Refused", "held"), archive.run, ("merge", "main", "dev"), ("drop", "main", "lamp", 0),
                    ("change", "key"), ("merge", "main", "dev"))
        self.assertEqual(state(archive), before)
        self.assertEqual(archive.history(), (2, 1))
        archive.redo()
        self.assertEqual(archive.commands()[-1], ("pass", "main"))

    def test_commands_of_one_run_build_on_each_other(self):
        archive = Archive(PLAIN)
        archive.run(("change", "a"), ("make", "main", "a", 0), ("change", "b"), ("merge", "dev", "main"),
                    ("drop", "dev", "a", 0), ("make", "dev", "b", 0))
        self.assertEqual(archive.history(), (1, 0))
        self.assertEqual((archive.contents("a", "dev"), archive.contents("b", "dev")), ((), (0,)))

    def test_busy_while_commands_are_done(self):
        archive = filled(PLAIN, ("change", "lamp"))
        seen = []
        do = Store.do

        def watched(store, *deeds):
            seen.append(archive.busy)
            do(store, *deeds)

        with mock.patch.object(Store, "do", watched):
            archive.run(("pass", "main"), ("mean", "dev", "lamp", "in"))
            self.expect(("Refused", "held"), archive.run, ("pass", "dev"), ("merge", "dev", "main"),
                        ("merge", "dev", "main"))
        self.assertEqual(set(seen), {True})
        self.assertIs(archive.busy, False)

    def test_a_run_without_commands(self):
        archive = Archive(PLAIN)
        self.assertIsNone(archive.run())
        self.assertEqual(archive.history(), (1, 0))
        archive.do(("change", "lamp"))
        archive.undo()
        self.assertEqual(archive.history(), (1, 1))
        archive.run()
        self.assertEqual((archive.history(), archive.commands()), ((2, 0), []))
        archive.undo()
        self.assertEqual(archive.history(), (1, 1))


class Steps(Checks):
    def step(self, draw, archive, plain):
        """A step at an archive: commands, an undo or a redo."""
        choice = draw.below(8)
        if choice < 3:
            self.run_both(archive, plain, *[right_command(draw, plain) for _ in range(min(choice, 1))])
        elif choice == 3:
            ahead = plain.twin()
            for _ in range(3):
                ahead.run(right_command(draw, ahead))
            self.run_both(archive, plain, *ahead.commands[len(plain.commands):])
        elif choice < 6:
            self.back_or_forth(archive.undo, plain.undo, len(plain.steps) > 1)
        else:
            self.back_or_forth(archive.redo, plain.redo, len(plain.undone) > 0)

    def back_or_forth(self, call, other, right):
        if right:
            self.assertIsNone(call())
            other()
        else:
            with self.assertRaises(errors.NothingLeft) as caught:
                call()
            self.assertEqual(caught.exception.code, "NothingLeft")

    def test_undo_and_redo(self):
        for seed, shape in enumerate(SHAPES):
            draw = Draw(600 + seed)
            archive = Archive(shape)
            plain = PlainArchive(shape)
            for at in range(24):
                self.step(draw, archive, plain)
                check_archive(self, archive, plain, stores=at % 6 == 5)

    def test_nothing_left(self):
        archive = Archive(PLAIN)
        for call in (archive.undo, archive.redo):
            with self.assertRaises(errors.NothingLeft):
                call()
        archive.do(("pass", "main"))
        with self.assertRaises(errors.NothingLeft):
            archive.redo()
        archive.undo()
        with self.assertRaises(errors.NothingLeft):
            archive.undo()
        self.assertEqual((archive.history(), archive.busy), ((0, 1), False))
        archive.redo()
        archive.undo()
        archive.do(("pass", "dev"))
        with self.assertRaises(errors.NothingLeft):
            archive.redo()
        self.assertEqual(archive.commands(), [("pass", "dev")])

    def test_a_refused_command_keeps_what_can_be_redone(self):
        archive = filled(PLAIN, ("change", "lamp"), ("pass", "main"))
        archive.undo()
        for command in (("merge", "main", "dev"), ("change", "lamp"), None):
            with self.assertRaises(errors.StillError):
                archive.do(command)
        self.assertEqual(archive.history(), (1, 1))
        archive.redo()
        self.assertEqual(archive.commands(), [("change", "lamp"), ("pass", "main")])

    def test_all_the_way_back_and_forth(self):
        for seed, shape in enumerate(SHAPES[::5]):
            draw = Draw(700 + seed)
            archive = Archive(shape)
            plain = PlainArchive(shape)
            states = [state(archive)[1:3]]
            for _ in range(12):
                self.run_both(archive, plain, right_command(draw, plain))
                states.append(state(archive)[1:3])
            for at in range(11, -1, -1):
                archive.undo()
                self.assertEqual((state(archive)[1:3], archive.history()), (states[at], (at, 12 - at)))
            for at in range(1, 13):
                archive.redo()
                self.assertEqual((state(archive)[1:3], archive.history()), (states[at], (at, 12 - at)))
            check_archive(self, archive, plain, stores=True)

    def test_twins(self):
        for seed, shape in enumerate(SHAPES):
            draw = Draw(800 + seed)
            archive = Archive(shape)
            plain = PlainArchive(shape)
            for _ in range(8):
                self.step(draw, archive, plain)
            rows = [(archive, plain), (archive.twin(), plain.twin())]
            self.assertIs(rows[0][0] == rows[1][0], True)
            for _ in range(16):
                self.step(draw, *draw.one_of(rows))
                for one, model in rows:
                    check_archive(self, one, model)
                alike = rows[0][1].commands == rows[1][1].commands
                self.assertIs(rows[0][0] == rows[1][0], alike)
                self.assertIs(rows[0][0] != rows[1][0], not alike)

    def test_a_twin_keeps_the_steps(self):
        archive = filled(PLAIN, ("change", "lamp"), ("pass", "main"), ("pass", "dev"))
        archive.undo()
        twin = archive.twin()
        self.assertEqual((twin.history(), state(twin)), ((2, 1), state(archive)))
        twin.undo()
        twin.undo()
        self.assertEqual((twin.history(), archive.history()), ((0, 3), (2, 1)))
        archive.redo()
        archive.do(("hear", "main", "dev"))
        for _ in range(3):
            twin.redo()
        self.assertEqual(twin.commands(), [("change", "lamp"), ("pass", "main"), ("pass", "dev")])


class Bounds(Checks):
    def test_class_values(self):
        self.assertTrue(same((Archive.CHANGES, Archive.MOST), (6, 200)))
        self.assertEqual((Archive(PLAIN).CHANGES, Archive(PLAIN).MOST), (6, 200))

    def test_six_changes(self):
        archive = filled(PLAIN, *[("change", name) for name in NAMES[:6]])
        self.expect(("TooMany", 6), archive.do, ("change", "more"))
        self.expect(("DuplicateName", "lamp"), archive.do, ("change", "lamp"))
        self.expect(("TooMany", 6), archive.run, ("pass", "main"), ("change", "more"))
        archive.undo()
        self.assertEqual(len(archive), 5)
        archive.do(("change", "more"))
        self.assertEqual((len(archive), archive.changes()[-1], archive.history()), (6, "more", (6, 0)))

    def test_two_hundred_commands(self):
        archive = filled(PLAIN, ("change", "lamp"))
        archive.run(*[("pass", "main")] * 198)
        archive.do(("make", "main", "lamp", 0))
        self.assertEqual((len(archive.commands()), archive.history()), (200, (3, 0)))
        for command in [("pass", "dev"), ("change", "key"), ("drop", "main", "lamp", 0), ("merge", "dev", "main"),
                        ("mean", "dev", "lamp", "in"), ("hear", "dev", "main")]:
            self.expect(("TooMany", 200), archive.do, command)
        self.expect(("DuplicateName", "lamp"), archive.do, ("change", "lamp"))
        self.expect(("UnknownChange", "key"), archive.do, ("make", "dev", "key", 0))
        self.expect(("Refused", "held"), archive.do, ("merge", "main", "dev"))
        self.expect(("Refused", "there"), archive.do, ("make", "main", "lamp", 0))
        self.expect(("InvalidCommand", 0), archive.do, ("pass", "zoo"))
        self.expect(("TooMany", 200), archive.run, ("pass", "dev"), ("pass", "dev"))
        self.assertEqual((len(archive.commands()), archive.history()), (200, (3, 0)))
        archive.run()
        archive.undo()
        archive.undo()
        self.assertEqual(len(archive.commands()), 199)
        self.expect(("TooMany", 200), archive.run, ("pass", "dev"), ("pass", "dev"))
        archive.do(("pass", "dev"))
        self.expect(("TooMany", 200), archive.do, ("pass", "dev"))
        archive.undo()
        archive.redo()
        self.expect(("TooMany", 200), archive.do, ("pass", "dev"))

    def test_two_hundred_and_one_commands_at_once(self):
        archive = Archive(PLAIN)
        self.expect(("TooMany", 200), archive.run, *[("pass", "main")] * 201)
        self.assertEqual((archive.commands(), archive.history()), ([], (0, 0)))
        archive.run(*[("pass", "main")] * 200)
        self.assertEqual(len(archive.commands()), 200)

    def test_six_changes_and_two_hundred_commands(self):
        archive = filled(PLAIN, *[("change", name) for name in NAMES[:6]])
        archive.run(*[("hear", "main", "dev")] * 194)
        self.expect(("TooMany", 6), archive.do, ("change", "more"))
        self.expect(("DuplicateName", "lamp"), archive.do, ("change", "lamp"))
        self.expect(("TooMany", 200), archive.do, ("pass", "main"))


class OneChange(Checks):
    def test_each_change_by_itself(self):
        """A change is told of alike if what was done to all others is done to none."""
        for seed, shape in enumerate(SHAPES):
            draw = Draw(900 + seed)
            archive = Archive(shape)
            plain = PlainArchive(shape)
            for _ in range(24):
                self.run_both(archive, plain, right_command(draw, plain))
            for name in archive.changes():
                alone = Archive(shape)
                for command in archive.commands():
                    other = name_in(command) not in (None, name)
                    if not other:
                        alone.do(command)
                    elif command[0] not in ("change", "mean"):
                        alone.do(("pass", command[1]))
                self.assertEqual(alone.changes(), [name])
                self.assertEqual(alone.store(name), archive.store(name))
                self.assertEqual(alone.store(name).log(), deeds_for(archive.commands(), name))
                for branch in shape.branches:
                    self.assertEqual((alone.told(name, branch), alone.contents(name, branch),
                                      alone.meaning(name, branch)),
                                     (archive.told(name, branch), archive.contents(name, branch),
                                      archive.meaning(name, branch)))

    def test_one_change_less(self):
        for seed, shape in enumerate(SHAPES[::3]):
            draw = Draw(950 + seed)
            plain = PlainArchive(shape)
            for _ in range(16):
                plain.run(right_command(draw, plain))
            names = names_in(plain.commands)
            for gone in names:
                left = [command if name_in(command) != gone else ("pass", command[1]) for command in plain.commands
                        if name_in(command) != gone or command[0] not in ("change", "mean")]
                archive = filled(shape, *left)
                for name in names:
                    if name != gone:
                        check_log(self, archive.store(name), plain_store(shape, plain.commands, name))


if __name__ == "__main__":
    unittest.main()
