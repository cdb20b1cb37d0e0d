"""The whole program: names of arguments, lists that are spoilt, words as names, and known numbers of moments."""

import ast
import inspect
import unittest
from math import comb, factorial

import known
from histories import BASES, Draw
from plain_nets import moment_behind
from samples import same
from stillmeant import (alikes, archives, blames, conditions, deeds, desks, errors, mendings, moments, nets, pages,
                        papers, policies, shapes, stores, webs)
from stillmeant.alikes import is_alike, parting
from stillmeant.archives import Archive
from stillmeant.blames import blamed
from stillmeant.conditions import Condition
from stillmeant.deeds import all_deeds, deed_text, is_deed, read_deed
from stillmeant.desks import Desk
from stillmeant.mendings import Cure, Mending, Trap
from stillmeant.moments import Moment
from stillmeant.nets import Net
from stillmeant.pages import command_text, page_text, read_command, read_page
from stillmeant.papers import Ever, Never, judged
from stillmeant.policies import Policy
from stillmeant.shapes import Shape
from stillmeant.stores import Store
from stillmeant.webs import Web
from test_files import files

PLAIN = Shape("main", "dev")
TRIPLE = Shape("main", "dev", "zoo")
MODULES = [alikes, archives, blames, conditions, deeds, desks, errors, mendings, moments, nets, pages, papers, policies,
           shapes, stores, webs]
# The parameters of everything in the interface, as they stand there; `self` is left out.
PARAMETERS = {
    "Web": "many, *, timed=False", "Web.joined": "reader, other", "Web.grown": "row, label", "Web.tops": "reader",
    "Web.common": "reader, other", "Web.aged": "reader, other", "Web.holds": "reader, row", "Web.last": "row",
    "is_name": "value", "Shape": "*branches, places=1, table='1100', bases='newest'", "Shape.index": "branch",
    "Shape.merged": "base, ours, theirs", "Shape.changed": "*, places=None, table=None, bases=None",
    "Shape.read": "text", "is_deed": "shape, value", "deed_text": "deed", "read_deed": "shape, text",
    "all_deeds": "shape", "Condition": "text", "Condition.telling": "branch, word",
    "Condition.holding": "branch, other", "Condition.all_of": "*conditions", "Condition.any_of": "*conditions",
    "Condition.branch_names": "", "Condition.holds": "moment", "Moment": "shape", "Moment.contents": "branch",
    "Moment.meaning": "branch", "Moment.told": "branch", "Moment.stood": "branch", "Moment.holds": "branch, other",
    "Moment.bases_of": "branch, other", "Moment.refusal": "deed", "Moment.after": "deed", "Moment.deeds": "",
    "Store": "shape", "Store.do": "*deeds", "Store.undo": "", "Store.log": "", "Store.versions": "",
    "Store.past": "branch", "Store.words": "", "Store.heard": "branch", "Store.told": "branch",
    "Store.contents": "branch", "Store.meaning": "branch", "Store.walk": "", "Store.twin": "",
    "Policy": "shape, lines", "Policy.lines": "", "Policy.possible": "moment", "Policy.after": "moment, line",
    "Policy.played": "*history", "Policy.without": "*lines", "Policy.read": "text", "Net": "policy",
    "Net.moments": "", "Net.ways": "moment", "Net.way": "moment", "Net.idle": "", "Verdict": "condition",
    "Verdict.holds": "policy", "Never": "condition, moments", "Never.moments": "", "Never.holds": "policy",
    "Ever": "condition, history", "Ever.history": "", "Ever.holds": "policy", "judged": "net, condition",
    "Mending": "net, repair, *, goal=None", "Mending.need": "moment", "Mending.plan": "moment", "Mending.worst": "",
    "Mending.hopeless": "", "Mending.why": "moment", "Cure": "goal, rows", "Cure.rows": "", "Cure.holds": "repair",
    "Trap": "goal, moments", "Trap.moments": "", "Trap.holds": "repair", "all_right": "shape",
    "blamed": "net, condition", "parting": "one, other", "is_alike": "one, other", "Archive": "shape",
    "Archive.run": "*commands", "Archive.do": "command", "Archive.undo": "", "Archive.redo": "",
    "Archive.history": "", "Archive.changes": "", "Archive.store": "name", "Archive.told": "name, branch",
    "Archive.contents": "name, branch", "Archive.meaning": "name, branch", "Archive.commands": "",
    "Archive.bad": "", "Archive.twin": "", "command_text": "command", "read_command": "shape, text",
    "page_text": "archive", "read_page": "text", "Desk": "archive", "Desk.say": "line", "Desk.__call__": "line",
    "Desk.log": "",
    "InvalidName": "name", "DuplicateName": "name", "InvalidNumber": "number", "InvalidTable": "given",
    "InvalidBases": "given", "InvalidDeed": "", "InvalidCondition": "given", "InvalidLine": "at", "InvalidText": "at",
    "InvalidCommand": "at", "Refused": "word", "Impossible": "at", "TooMany": "most", "Untimed": "",
    "WrongShape": "", "UnknownBranch": "name", "UnknownChange": "name", "UnknownMoment": "", "NothingLeft": "",
}


class Arguments(unittest.TestCase):
    def test_the_names_of_all_parameters(self):
        names = {name: value for module in MODULES for name, value in vars(module).items()
                 if getattr(value, "__module__", None) == module.__name__}
        for path, expected in PARAMETERS.items():
            owner, _, method = path.partition(".")
            found = getattr(names[owner], method) if method else names[owner]
            given = [parameter for parameter in inspect.signature(found).parameters.values()
                     if parameter.name != "self"]
            self.assertEqual(str(inspect.Signature(given)), f"({expected})", path)

    def test_arguments_by_name(self):
        deed = ("make", "main", 0)
        web = Web(many=2, timed=True).grown(label="a", row=0).joined(other=0, reader=1)
        self.assertEqual((web.tops(reader=1), web.common(other=1, reader=0), web.aged(reader=0, other=1)),
                         ([(0, "a")], [(0, "a")], [(0, "a")]))
        self.assertEqual((web.holds(row=0, reader=1), web.last(row=0)), (True, "a"))
        self.assertEqual((PLAIN.index(branch="dev"), PLAIN.merged(theirs=(0,), base=(), ours=())), (1, (0,)))
        self.assertEqual((shapes.is_name(value="a"), Shape.read(text=PLAIN.text)), (True, PLAIN))
        self.assertEqual((is_deed(value=deed, shape=PLAIN), deed_text(deed=deed)), (True, "make main 0"))
        self.assertEqual(read_deed(text="make main 0", shape=PLAIN), deed)
        self.assertEqual(len(list(all_deeds(shape=PLAIN))), len(list(all_deeds(PLAIN))))
        condition = Condition(text="main in")
        self.assertEqual(Condition.telling(word="in", branch="main"), condition)
        self.assertEqual(Condition.holding(other="dev", branch="main").text, "main holds dev")
        moment = Moment(shape=PLAIN).after(deed=deed)
        self.assertEqual((condition.holds(moment=moment), moment.refusal(deed=deed)), (True, "there"))
        self.assertEqual([ask(branch="main") for ask in (moment.contents, moment.meaning, moment.told, moment.stood)],
                         [(0,), "in", "right", (0,)])
        self.assertEqual((moment.holds(other="dev", branch="main"), moment.bases_of(other="dev", branch="main")),
                         (True, [()]))
        store = Store(shape=PLAIN)
        store.do(deed)
        self.assertEqual([ask(branch="main") for ask in (store.contents, store.meaning, store.told, store.past,
                                                         store.heard)], [(0,), "in", "right", [0], [0]])
        self.assertEqual(Policy(lines=known.FLOW.lines(), shape=PLAIN), Policy.read(text=known.FLOW.text))
        self.assertEqual(known.FLOW.after(line=0, moment=Moment(PLAIN)), known.FLOW.played(0))


class SpoiltLists(unittest.TestCase):
    def asked_twice(self):
        """Calls that return lists."""
        web = Web(2, timed=True).grown(0, "a").joined(1, 0).grown(1, "b")
        moment = moment_behind(PLAIN, [("make", "dev", 0), ("merge", "main", "dev")])
        store = Store(PLAIN)
        store.do(("make", "dev", 0), ("merge", "main", "dev"), ("mean", "main", "out"))
        net = Net(known.FLOW)
        late = net.moments()[-1]
        never, ever = judged(net, Condition("dev twice")), judged(net, Condition("main back"))
        mending = Mending(net, known.FLOW)
        archive = read_page("shape main dev 1 1100 newest\nchange lamp\nchange key\nmean main key in\nhear dev main\n")
        desk = Desk(archive)
        desk.say("told key dev")
        known_rows = [
            lambda: web.tops(1), lambda: web.common(0, 1), lambda: web.aged(1, 0),
            lambda: list(all_deeds(PLAIN)), Condition("all(main in, dev in)").branch_names, moment.deeds,
            lambda: moment.bases_of("main", "dev"), store.log, store.versions, store.words,
            lambda: store.past("main"), lambda: store.heard("main"), lambda: list(store.walk()),
            known.FLOW.lines, lambda: known.FLOW.possible(moment), net.moments, net.idle, lambda: net.ways(late),
            lambda: net.way(late), never.moments, ever.history, lambda: mending.plan(late), mending.hopeless,
            mending.why(late).rows, lambda: mending.why(late).rows(), Trap(Condition("true"), [moment]).moments,
            lambda: blamed(net, Condition("main in")), lambda: parting(known.FLOW, known.FLOW.without(3)),
            archive.changes, archive.commands, archive.bad, desk.log, archive.store("key").log]
        hopeless = Mending(net, known.FLOW, goal=Condition("not(true)"))
        return known_rows + [hopeless.hopeless, hopeless.why(late).moments]

    def test_answers(self):
        for ask in self.asked_twice():
            first = ask()
            self.assertIs(type(first), list)
            before = list(first)
            first.append(None)
            first.reverse()
            self.assertEqual(ask(), before)
            first.clear()
            self.assertEqual(ask(), before)

    def test_lists_that_are_changed_afterwards(self):
        line = (("pass", "main"), Condition("true"))
        for make, items in [
                (lambda passed: Policy(PLAIN, passed).lines, [line]),
                (lambda passed: Never(Condition("true"), passed).moments, [Moment(PLAIN)]),
                (lambda passed: Ever(Condition("true"), passed).history, [0, 1]),
                (lambda passed: Cure(Condition("true"), passed).rows, [(Moment(PLAIN), 0)]),
                (lambda passed: Trap(Condition("true"), passed).moments, [Moment(PLAIN)])]:
            passed = list(items)
            ask = make(passed)
            passed.reverse()
            passed.append(None)
            self.assertEqual(ask(), items)
            passed.clear()
            self.assertEqual(ask(), items)
            self.assertEqual(make(tuple(items))(), items)


class WordsAsNames(unittest.TestCase):
    BRANCHES = ["if", "not", "all", "holds", "in", "true"]

    def shapes(self):
        for one in self.BRANCHES:
            for other in self.BRANCHES:
                if one != other:
                    yield Shape(one, other, places=2)
                    yield Shape(other, "any", one)

    def test_conditions(self):
        for one in self.BRANCHES:
            for other in self.BRANCHES:
                for word in ("in", "twice", "gone", "back", "quarrel", "right"):
                    condition = Condition(f"{one} {word}")
                    self.assertEqual(condition.tree, ("told", one, word))
                    self.assertEqual(condition, Condition.telling(one, word))
                if one != other:
                    condition = Condition(f"not(any({one} holds {other}, true, {other} in))")
                    self.assertEqual(condition.tree, ("not", ("any", (("holds", one, other), ("true",),
                                                                       ("told", other, "in")))))
                    self.assertEqual(condition.branch_names(), sorted([one, other]))
        self.assertEqual(Condition("true").tree, ("true",))
        self.assertEqual(Condition("true").branch_names(), [])

    def test_policies(self):
        for shape in self.shapes():
            one, other = shape.branches[0], shape.branches[-1]
            lines = [(deed, Condition(text)) for deed, text in zip(list(all_deeds(shape))[::5], [
                "true", f"{one} in", f"{one} holds {other}", f"not({other} right)", f"all(true, {one} gone)",
                f"any({other} holds {one}, {one} back, not(true))"])]
            policy = Policy(shape, lines)
            self.assertEqual(Policy.read(policy.text), policy)
            self.assertEqual(Policy.read(policy.text).lines(), lines)

    def test_commands_and_desks(self):
        for shape in self.shapes():
            one, other = shape.branches[0], shape.branches[-1]
            desk = Desk(Archive(shape))
            for name in ("undo", "told", "change", one):
                for command in [("change", name), ("make", one, name, 0), ("hear", other, one),
                                ("pick", other, one, name, 0, 0), ("drop", one, name, 0), ("mean", other, name, "in")]:
                    text = command_text(command)
                    self.assertEqual(read_command(shape, text), command)
                    self.assertEqual(desk.say("refusal " + text), "ok")
                    self.assertEqual(desk.say(text), "ok")
                self.assertEqual(desk.say(f"told {name} {one}"), "right")
                self.assertEqual(desk.say(f"meaning {name} {other}"), "in")
                self.assertEqual(desk.say(f"places {name} {other}"), "0")
            self.assertEqual(desk.say("changes"), f"undo told change {one}")
            self.assertEqual(desk.say("undo"), "ok")
            self.assertEqual(desk.say("redo"), "ok")
            self.assertEqual(read_page(page_text(desk.archive)), desk.archive)


class KnownNumbers(unittest.TestCase):
    """Numbers of moments that are counted by hand, for all words for bases and lines in any order."""

    PASSES = ["pass main", "pass dev", "pass zoo"]
    # One branch says both words, and the others hear it: they know nothing, its last word or an earlier one.
    HEARD = ["mean main in", "mean main out", "hear dev main", "hear zoo main"]
    # One branch says a word, another one hears it and says a word of its own.
    SAID = ["mean main in", "hear dev main", "mean dev out"]
    # Nobody else ever knows these versions: none, a passed one, one with the change, one without it again.
    ALONE = ["pass {0}", "make {0} 0", "drop {0} 0", "restore {0} 0"]

    def orders(self, many, forms):
        """In how many ways some of so many branches have a version of so many forms, with their order."""
        return sum(comb(many, some) * forms ** some * factorial(some) for some in range(many + 1))

    def policies(self, rows, seed):
        """The policies of some lines for all words for bases, each with its lines in another order."""
        draw = Draw(seed)
        for bases in BASES:
            mixed = list(rows)
            for at in range(len(mixed)):
                other = draw.below(len(mixed))
                mixed[at], mixed[other] = mixed[other], mixed[at]
            shape = TRIPLE.changed(bases=bases)
            yield known.read(shape.text, *[f"{row} if true" for row in mixed])

    def check(self, rows, timed, untimed, seed=1):
        """Checks the number of moments, and what holds of each net."""
        for policy in self.policies(rows, seed):
            net = Net(policy)
            self.assertEqual(len(net), timed if policy.shape.timed else untimed, policy.text)
            found = net.moments()
            self.assertEqual(len({moment.key for moment in found}), len(net))
            self.assertEqual(found[0], Moment(policy.shape))
            self.assertEqual(net.idle(), [])
            never = judged(net, Condition("any(main twice, not(true))"))
            self.assertEqual((never.WORD, len(never.moments())), ("never", len(net)))
            self.assertIsNone(parting(policy, policy))
            yield policy, net

    def test_passes(self):
        for _ in self.check(self.PASSES, self.orders(3, 1), 2 ** 3):
            pass
        for _ in self.check(self.PASSES[:2], self.orders(2, 1), 2 ** 2):
            pass
        self.assertEqual((self.orders(3, 1), len(Net(known.ORDERS))), (16, 16))

    def test_words_that_are_heard(self):
        # With k kept words there are 2 ** k rows of labels: see the ways in which two readers stand behind a third one.
        words = 1 + 4 * 2 + 5 * 4 + 2 * 8
        for _, net in self.check(self.HEARD, words, words):
            self.check_needs(net)
        for _, net in self.check(self.HEARD + self.PASSES, words * 16, words * 8, seed=2):
            self.assertEqual(judged(net, Condition("dev quarrel")).WORD, "never")
            self.assertEqual(len(judged(net, Condition("all(dev gone, main gone, zoo right)")).history()), 2)

    def check_needs(self, net):
        """Each branch that misses the change needs one line: the first one a word, the others to hear it."""
        mending = Mending(net, net.policy)
        for moment in net.moments():
            gone = [branch for branch in TRIPLE.branches if moment.told(branch) == "gone"]
            self.assertEqual(mending.need(moment), len(gone))
        self.assertEqual((mending.worst(), mending.hopeless()), (3, []))

    def test_words_that_are_said(self):
        for _, net in self.check(self.SAID, 10, 10):
            self.assertEqual(judged(net, Condition("dev gone")).WORD, "ever")
        for _ in self.check(self.SAID + self.PASSES, 160, 80, seed=3):
            pass

    def test_versions_that_nobody_else_knows(self):
        rows = [row.format(branch) for branch in TRIPLE.branches for row in self.ALONE]
        self.assertEqual(self.orders(3, 3), 226)
        for policy, net in self.check(rows, self.orders(3, 3), 4 ** 3, seed=4):
            self.assertEqual(Mending(net, policy).worst(), 0)
        for _ in self.check(rows[:8], self.orders(2, 3), 4 ** 2, seed=5):
            pass

    def test_two_thousand(self):
        self.assertEqual(len(Net(known.TALKS)), 125)
        lines = known.FULL.lines()
        for at in (0, 4, 7):
            policy = Policy(known.FULL.shape, lines[at:] + lines[:at])
            self.assertEqual(len(Net(policy)), 125 * 16)
        self.assertIs(is_alike(known.FULL, Policy(known.FULL.shape, lines[::-1])), True)
        self.assertEqual(len(Net(Policy(known.FULL.shape.changed(bases="every"), lines))), 125 * 8)


class ThirdBranchesAndSecondPlaces(unittest.TestCase):
    """A Mending without a goal, worked out by hand."""

    def plans(self, policy, repair, *histories):
        mending = Mending(Net(policy), repair)
        return [mending.plan(policy.played(*history)) for history in histories]

    def test_a_third_branch_has_to_hear_as_well(self):
        first = "shape main dev zoo 1 1100 newest"
        policy = known.read(first, "make main 0 if true", "hear dev main if true", "hear zoo dev if true")
        repair = known.read(first, "merge zoo dev if true", "merge dev main if true", "pick zoo main 0 0 if true")
        self.assertEqual(self.plans(policy, repair, [], [0], [0, 1], [0, 1, 2]), [[], [], [1], [1, 0]])
        self.assertEqual(Mending(Net(policy), repair).worst(), 2)
        self.assertEqual(self.plans(policy, repair.without(1), [0], [0, 1], [0, 1, 2]), [[], None, None])
        self.assertEqual(len(Mending(Net(policy), repair.without(1)).hopeless()), 2)
        talk = known.read(first, "mean main out if true", "drop main 0 if true", "hear dev main if true",
                          "hear zoo dev if true")
        self.assertEqual(self.plans(policy, talk, [0, 1], [0, 1, 2]), [[1, 2], [1, 2, 3]])

    def test_a_change_that_stands_twice(self):
        first = "shape main dev 2 1100 newest"
        policy = known.read(first, "make main 0 if true", "make dev 1 if true", "merge main dev if true",
                            "merge dev main if true")
        self.assertEqual(policy.played(0, 1, 2).contents("main"), (0, 1))
        repair = known.read(first, "drop main 0 if true", "drop main 1 if main twice", "merge main dev if true",
                            "merge dev main if not(main twice)")
        self.assertEqual(self.plans(policy, repair, [0], [0, 1], [0, 1, 2]), [[], [], [0]])
        self.assertEqual(self.plans(policy, repair, [0, 1, 2, 3]), [[0, 3]])
        self.assertEqual(self.plans(policy, repair.without(0), [0, 1, 2, 3]), [[0, 2]])
        self.assertEqual(self.plans(policy, repair.without(0, 1), [0, 1, 2]), [None])

    def test_a_quarrel_of_three(self):
        first = "shape main dev zoo 1 1100 any"
        policy = known.read(first, "mean main in if true", "mean dev out if true", "hear zoo main if true",
                            "hear zoo dev if true")
        self.assertEqual([policy.played(0, 1, 2, 3).told(branch) for branch in TRIPLE.branches],
                         ["gone", "right", "quarrel"])
        repair = known.read(first, "hear main zoo if true", "mean zoo out if true")
        self.assertEqual(self.plans(policy, repair, [0, 1], [0, 1, 2, 3], [0, 2]), [None, [1, 0], [1, 0]])
        self.assertEqual(Mending(Net(policy), repair).worst(), None)

    def test_parting(self):
        first = "shape main dev zoo 2 1100 newest"
        rows = ["make zoo 1 if true", "merge dev zoo if true", "pick main dev 1 0 if true", "merge main zoo if main in"]
        one = known.read(first, *rows)
        other = known.read("shape main dev zoo 2 0100 newest", *rows)
        self.assertEqual(parting(one, other), [("make", "zoo", 1), ("merge", "dev", "zoo")])
        late = known.read(first, *rows, "drop main 1 if main twice")
        self.assertEqual(parting(one, late), [("make", "zoo", 1), ("merge", "dev", "zoo"),
                                              ("pick", "main", "dev", 1, 0), ("merge", "main", "zoo")])
        self.assertIs(is_alike(one, late), False)
        self.assertIs(is_alike(one, known.read(first, *rows, "drop main 1 if dev twice")), True)


class NothingFromOutside(unittest.TestCase):
    def test_no_clock_random_numbers_or_files(self):
        for name, text in files():
            for node in ast.walk(ast.parse(text)):
                self.assertNotIsInstance(node, (ast.Import, ast.Global, ast.AsyncFunctionDef), name)
                if isinstance(node, ast.Name):
                    self.assertNotIn(node.id, ("open", "print", "input", "eval", "exec", "globals", "hash", "id"), name)


if __name__ == "__main__":
    unittest.main()
