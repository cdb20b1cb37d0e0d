"""Policies: written rules that say which deeds may be done, and when."""

from stillmeant.conditions import Condition
from stillmeant.deeds import all_deeds, deed_text, is_deed
from stillmeant.errors import Impossible, InvalidCondition, InvalidLine, InvalidNumber, InvalidText, WrongShape
from stillmeant.moments import Moment
from stillmeant.shapes import Shape
from stillmeant.values import is_index


class Policy:
    """A shape and one to twelve lines, pairs of a deed and a condition; it never changes."""

    MOST = 12

    def __init__(self, shape, lines):
        if not 1 <= len(lines) <= Policy.MOST:
            raise InvalidNumber(len(lines))
        for at, line in enumerate(lines):
            if not _is_line(shape, line):
                raise InvalidLine(at)
        self._shape = shape
        self._lines = list(lines)
        self._text = "\n".join([shape.text] + [_line_text(line) for line in lines])

    @property
    def shape(self):
        """The shape of the policy."""
        return self._shape

    @property
    def text(self):
        """The text of the policy."""
        return self._text

    def lines(self):
        """The list of the lines."""
        return list(self._lines)

    def possible(self, moment):
        """The ascending list of the indexes of the lines that are possible in a moment."""
        self._check(moment)
        return [at for at in range(len(self._lines)) if self._is_possible(moment, at)]

    def after(self, moment, line):
        """The moment behind a line."""
        self._check(moment)
        if not self._is_possible(moment, line):
            raise Impossible(line)
        return self._behind(moment, line)

    def played(self, *history):
        """The moment behind a history."""
        moment = Moment(self._shape)
        for at, line in enumerate(history):
            if not self._is_possible(moment, line):
                raise Impossible(at)
            moment = self._behind(moment, line)
        return moment

    def without(self, *lines):
        """The policy without the lines with these indexes."""
        for line in lines:
            if not is_index(line, len(self._lines)):
                raise InvalidNumber(line)
        return Policy(self._shape, [self._lines[at] for at in range(len(self._lines)) if at not in lines])

    @staticmethod
    def read(text):
        """The policy with this text."""
        if not isinstance(text, str):
            raise InvalidText(0)
        first, *rest = text.split("\n")
        shape = Shape.read(first)
        lines = [_read_line(shape, line, at + 1) for at, line in enumerate(rest)]
        if not 1 <= len(lines) <= Policy.MOST:
            raise InvalidText(len(lines) + 1)
        return Policy(shape, lines)

    def _check(self, moment):
        if moment.shape != self._shape:
            raise WrongShape()

    def _is_possible(self, moment, line):
        """Whether any value is the index of a line that is possible in a moment."""
        if not is_index(line, len(self._lines)):
            return False
        deed, condition = self._lines[line]
        return condition.holds(moment) and moment.refusal(deed) == ""

    def _behind(self, moment, line):
        deed, _ = self._lines[line]
        return moment.after(deed)

    def __eq__(self, other):
        return isinstance(other, Policy) and self._text == other._text

    def __len__(self):
        return len(self._lines)

    def __repr__(self):
        return f"Policy({len(self._lines)} lines)"


def _is_line(shape, value):
    """Whether any value is a line of a policy with this shape."""
    if not isinstance(value, tuple) or len(value) != 2:
        return False
    deed, condition = value
    if not is_deed(shape, deed) or not isinstance(condition, Condition):
        return False
    return all([name in shape.branches for name in condition.branch_names()])


def _line_text(line):
    deed, condition = line
    return f"{deed_text(deed)} if {condition.text}"


def _read_line(shape, text, at):
    """The line of a policy with this text, which stands at this index."""
    # A branch may be called `if`, so the text is not split there.
    for deed in all_deeds(shape):
        start = f"{deed_text(deed)} if "
        if text.startswith(start):
            line = (deed, _read_condition(text[len(start):], at))
            if _is_line(shape, line):
                return line
    raise InvalidText(at)


def _read_condition(text, at):
    """The condition with this text, which stands in the line with this index."""
    try:
        return Condition(text)
    except InvalidCondition:
        raise InvalidText(at) from None
