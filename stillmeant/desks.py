"""Desks: an archive that is asked and changed by lines of text."""

from stillmeant.errors import InvalidCommand, Missing, NothingLeft, StillError
from stillmeant.pages import read_command

UNKNOWN = "unknown"


class Desk:
    """An archive, and the lines that were said with their answers."""

    def __init__(self, archive):
        self._archive = archive
        self._log = []

    @property
    def archive(self):
        """The archive of the desk."""
        return self._archive

    def say(self, line):
        """The answer to a line."""
        answer = self._answer(line)
        self._log.append((line, answer))
        return answer

    def log(self):
        """The list of the pairs (line, answer)."""
        return list(self._log)

    def _answer(self, line):
        words = line.split(" ")
        if "" in words:
            return UNKNOWN
        try:
            return self._answer_words(words)
        except (StillError, Missing, NothingLeft) as error:
            return f"error {error.code}"

    def _answer_words(self, words):
        """The answer to the words of a line; an error is raised."""
        archive = self._archive
        if words == ["undo"]:
            archive.undo()
            return "ok"
        if words == ["redo"]:
            archive.redo()
            return "ok"
        if words == ["changes"]:
            return _listed(archive.changes())
        if len(words) == 3 and words[0] in ("told", "meaning", "places"):
            return _answer_about(archive, words[0], words[1], words[2])
        if words[0] == "refusal":
            return _answer_command(archive.twin(), words[1:])
        return _answer_command(archive, words)

    def __call__(self, line):
        return self.say(line)

    def __len__(self):
        return len(self._log)

    def __repr__(self):
        return f"Desk({len(self._log)} lines)"


def _answer_about(archive, question, name, branch):
    """The answer to a question about a change on a branch."""
    if question == "told":
        return archive.told(name, branch)
    if question == "meaning":
        return archive.meaning(name, branch)
    return _listed(archive.contents(name, branch))


def _answer_command(archive, words):
    """The answer to the words of a command, which is done to the archive."""
    try:
        command = read_command(archive.shape, " ".join(words))
    except InvalidCommand:
        return UNKNOWN
    archive.do(command)
    return "ok"


def _listed(items):
    """Some items with spaces between, or the word for no items."""
    if not items:
        return "none"
    return " ".join([str(item) for item in items])
