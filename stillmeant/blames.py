"""Blames: the least sets of lines without which a condition is never true."""

from itertools import combinations

from stillmeant.errors import TooMany

MOST = 10


def blamed(net, condition):
    """The list of the sets of lines that are to blame, the shorter ones first and equally long ones ascending."""
    moments = net.moments()
    truths = [condition.holds(moment) for moment in moments]
    many = len(net.policy)
    if many > MOST:
        raise TooMany(MOST)
    steps = _numbered_steps(net, moments)
    found = []
    for size in range(many + 1):
        for lines in combinations(range(many), size):
            if not _has_part(lines, found) and not _comes_true(steps, truths, lines):
                found.append(lines)
    return found


def _numbered_steps(net, moments):
    """For each moment the pairs (line, number of the moment behind it)."""
    numbers = {moment.key: number for number, moment in enumerate(moments)}
    return [[(line, numbers[behind.key]) for line, behind in net.ways(moment)] for moment in moments]


def _has_part(lines, sets):
    """Whether one of some sets is a part of these lines."""
    return any([all([line in lines for line in each]) for each in sets])


def _comes_true(steps, truths, gone):
    """Whether some history without the lines that are gone leads to a moment in which the condition is true."""
    # Which lines are possible depends on the moment alone, so the net of fewer lines lies within the net.
    ready = [0]
    seen = {0: True}
    while ready:
        number = ready.pop()
        if truths[number]:
            return True
        for line, behind in steps[number]:
            if line not in gone and behind not in seen:
                seen[behind] = True
                ready.append(behind)
    return False
