"""The files of the package: what of the rules of its language can be counted, and the interface's names."""

import ast
import os
import unittest

import stillmeant
from stillmeant import (alikes, archives, blames, conditions, deeds, desks, errors, mendings, moments, nets, pages,
                        papers, policies, shapes, stores, webs)

FOLDER = os.path.dirname(stillmeant.__file__)

INTERFACE = {
    webs.Web: ["many", "timed", "key", "joined", "grown", "tops", "common", "aged", "holds", "last",
               "__eq__", "__len__", "__repr__"],
    shapes.Shape: ["PLAIN", "BASES", "branches", "places", "table", "bases", "timed", "text", "index", "merged",
                   "changed", "read", "__eq__", "__repr__"],
    conditions.Condition: ["MOST", "text", "tree", "parts", "telling", "holding", "all_of", "any_of", "__and__",
                           "__or__", "__invert__", "branch_names", "holds", "__eq__", "__repr__"],
    moments.Moment: ["shape", "key", "contents", "meaning", "told", "stood", "holds", "bases_of", "refusal", "after",
                     "deeds", "__eq__", "__repr__"],
    stores.Store: ["shape", "moment", "do", "undo", "log", "versions", "past", "words", "heard", "told", "contents",
                   "meaning", "walk", "twin", "__len__", "__eq__", "__repr__"],
    policies.Policy: ["MOST", "shape", "text", "lines", "possible", "after", "played", "without", "read", "__eq__",
                      "__len__", "__repr__"],
    nets.Net: ["MOST", "policy", "moments", "ways", "way", "idle", "__contains__", "__len__", "__repr__"],
    papers.Verdict: ["WORD", "condition", "holds", "__repr__"],
    papers.Never: ["WORD", "moments", "holds", "__repr__"],
    papers.Ever: ["WORD", "history", "holds", "__repr__"],
    mendings.Mending: ["need", "plan", "worst", "hopeless", "why"],
    mendings.Cure: ["rows", "holds"],
    mendings.Trap: ["moments", "holds"],
    archives.Archive: ["CHANGES", "MOST", "shape", "run", "do", "undo", "redo", "history", "busy", "changes", "store",
                       "told", "contents", "meaning", "commands", "bad", "__contains__", "__len__", "__eq__",
                       "__repr__", "twin"],
    desks.Desk: ["archive", "say", "__call__", "log", "__len__", "__repr__"],
}
CLASSES = {webs.Web: webs, shapes.Shape: shapes, conditions.Condition: conditions, moments.Moment: moments,
           stores.Store: stores, policies.Policy: policies, errors.StillError: errors, nets.Net: nets,
           papers.Verdict: papers, papers.Never: papers, papers.Ever: papers, mendings.Mending: mendings,
           mendings.Cure: mendings, mendings.Trap: mendings, archives.Archive: archives, desks.Desk: desks}
FUNCTIONS = {shapes: ["is_name"], deeds: ["is_deed", "deed_text", "read_deed", "all_deeds"], papers: ["judged"],
             mendings: ["all_right"], blames: ["blamed"], alikes: ["parting", "is_alike"],
             pages: ["command_text", "read_command", "page_text", "read_page"]}
# What may be imported from outside the package.
LIBRARY = {"itertools": ["combinations"]}


def files():
    """Pairs of the name and the text of each file of the package."""
    rows = []
    for name in sorted(os.listdir(FOLDER)):
        if name != "__pycache__":
            with open(os.path.join(FOLDER, name), encoding="utf-8") as file:
                rows.append((name, file.read()))
    return rows


class Files(unittest.TestCase):
    def test_names(self):
        for name, _ in files():
            self.assertRegex(name, "^[a-z_]+[.]py$")

    def test_characters_and_sizes(self):
        for name, text in files():
            self.assertTrue(all(letter == "\n" or " " <= letter <= "~" for letter in text), name)
            lines = text.split("\n")
            self.assertLessEqual(len(lines), 400, name)
            for line in lines:
                self.assertLessEqual(len(line), 120, (name, line))

    def test_functions_are_small(self):
        for name, text in files():
            for node in ast.walk(ast.parse(text)):
                if isinstance(node, ast.FunctionDef):
                    self.assertLessEqual(node.end_lineno - node.lineno + 1, 40, (name, node.name))

    def test_strings(self):
        for name, text in files():
            for node in ast.walk(ast.parse(text)):
                if isinstance(node, ast.Constant) and isinstance(node.value, str):
                    self.assertNotIn("%", node.value, name)

    def test_imports(self):
        for name, text in files():
            for node in ast.walk(ast.parse(text)):
                self.assertNotIsInstance(node, ast.Import, name)
                if isinstance(node, ast.ImportFrom):
                    self.assertEqual(node.level, 0, name)
                    for alias in node.names:
                        self.assertIsNone(alias.asname, name)
                        inside = node.module.startswith("stillmeant.")
                        self.assertTrue(inside or alias.name in LIBRARY.get(node.module, []), (name, alias.name))


class Interface(unittest.TestCase):
    def test_methods_stand_in_their_class(self):
        for owner, names in INTERFACE.items():
            for name in names:
                self.assertIn(name, vars(owner))

    def test_functions_stand_in_their_file(self):
        for module, names in FUNCTIONS.items():
            for name in names:
                self.assertEqual(getattr(module, name).__module__, module.__name__)
        for owner, module in CLASSES.items():
            self.assertEqual(owner.__module__, module.__name__)


if __name__ == "__main__":
    unittest.main()
