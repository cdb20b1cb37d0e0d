"""Texts of commands and pages, read by patterns, and the answers of a desk, by the words of the document."""

import re

from plain_archives import FORMS, PlainArchive
from stillmeant.shapes import Shape

SHAPE = re.compile("shape((?: [a-z]{1,8}){2,3}) ([12]) ([01]{4}) (newest|eldest|any|every|refuse)")


def plain_text(command):
    text = command[0]
    for item in command[1:]:
        text = text + " " + str(item)
    return text


def plain_read(shape, text):
    """The command of a shape with this text, or None."""
    branch = "(" + "|".join(shape.branches) + ")"
    parts = {"b": branch, "s": branch, "n": "([a-z]{1,8})", "p": "([01])" if shape.places == 2 else "(0)",
             "w": "(in|out)"}
    for word, form in FORMS.items():
        found = re.fullmatch(" ".join([word] + [parts[kind] for kind in form]), text)
        if found:
            items = [int(item) if kind == "p" else item for kind, item in zip(form, found.groups())]
            if "s" not in form or items[0] != items[1]:
                return (word, *items)
    return None


def plain_shape(text):
    """The shape with this text, or None."""
    found = SHAPE.fullmatch(text)
    if not found:
        return None
    names = found.group(1).split()
    if len(set(names)) < len(names):
        return None
    return Shape(*names, places=int(found.group(2)), table=found.group(3), bases=found.group(4))


def plain_page(text):
    """The plain archive with this page, or the index of the first line that is wrong."""
    plain = None
    for at, line in enumerate(re.findall("[^\n]*\n|[^\n]+", text)):
        if not line.endswith("\n"):
            return at
        if at == 0:
            shape = plain_shape(line[:-1])
            if shape is None:
                return 0
            plain = PlainArchive(shape)
            continue
        command = plain_read(shape, line[:-1])
        if command is None or plain.error(command) is not None:
            return at
        plain.steps = [plain.commands + [command]]
    return 0 if plain is None else plain


def error_text(error):
    return "ok" if error is None else "error " + error[0]


def plain_answer(plain, line):
    """The answer to a line, which is done to a plain archive."""
    words = line.split(" ")
    if "" in words:
        return "unknown"
    if line in ("undo", "redo"):
        left = len(plain.steps) > 1 if line == "undo" else len(plain.undone) > 0
        if not left:
            return "error NothingLeft"
        plain.undo() if line == "undo" else plain.redo()
        return "ok"
    if line == "changes":
        return " ".join(plain.names()) or "none"
    if words[0] in ("told", "meaning", "places") and len(words) == 3:
        return plain_told(plain, *words)
    asked = line.removeprefix("refusal ")
    command = plain_read(plain.shape, asked)
    if command is None:
        return "unknown"
    error = plain.error(command)
    if error is None and asked == line:
        plain.run(command)
    return error_text(error)


def plain_told(plain, question, name, branch):
    if name not in plain.names():
        return "error UnknownChange"
    if branch not in plain.shape.branches:
        return "error UnknownBranch"
    store = plain.store(name)
    if question == "places":
        return " ".join(map(str, store.contents(branch))) or "none"
    return store.told(branch) if question == "told" else store.meaning(branch)
