"""Pages: the texts of commands and of archives."""

from stillmeant.archives import Archive
from stillmeant.commands import is_command
from stillmeant.errors import InvalidCommand, InvalidText, Missing, StillError
from stillmeant.shapes import Shape


def command_text(command):
    """The text of a command."""
    return " ".join([str(item) for item in command])


def read_command(shape, text):
    """The command of a shape with this text."""
    if not isinstance(text, str):
        raise InvalidCommand(0)
    command = tuple([_read_item(word) for word in text.split(" ")])
    if not is_command(shape, command):
        raise InvalidCommand(0)
    return command


def page_text(archive):
    """The page of an archive."""
    lines = [archive.shape.text] + [command_text(command) for command in archive.commands()]
    return "\n".join(lines) + "\n"


def read_page(text):
    """An archive with this page, without steps."""
    if not isinstance(text, str):
        raise InvalidText(0)
    # Each line ends with a line feed, so nothing may stand behind the last one.
    *lines, rest = text.split("\n")
    if not lines:
        raise InvalidText(0)
    archive = Archive(Shape.read(lines[0]))
    for at in range(1, len(lines)):
        _do_line(archive, lines[at], at)
    if rest:
        raise InvalidText(len(lines))
    return archive.settled()


def _read_item(word):
    """The item of a command that a word stands for: places are the only numbers."""
    return int(word) if word in ("0", "1") else word


def _do_line(archive, line, at):
    """Do the command in the line with this index."""
    try:
        archive.do(read_command(archive.shape, line))
    except (StillError, Missing):
        raise InvalidText(at) from None
