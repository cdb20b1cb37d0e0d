"""Mendings: the fewest lines of a repair that put a situation right, and what shows that no others do."""

from stillmeant.conditions import Condition
from stillmeant.errors import WrongShape
from stillmeant.nets import Net
from stillmeant.papers import are_closed
from stillmeant.reaches import Reach


class Mending:
    """How each moment of a net, and each one behind it, is mended by the lines of a repair; it never changes."""

    def __init__(self, net, repair, *, goal=None):
        if repair.shape != net.policy.shape:
            raise WrongShape()
        if goal is None:
            goal = all_right(repair.shape)
        moments = net.moments()
        # A branch that the shape does not have is an error ahead of too many moments.
        goal.holds(moments[0])
        self._goal = goal
        self._moments = moments
        self._reach = Reach(repair, moments, Net.MOST)
        self._needs = _counted_needs(self._reach, goal)

    def need(self, moment):
        """The least number of lines that mend a moment, or None if it cannot be mended."""
        return self._needs[self._reach.number_of(moment)]

    def plan(self, moment):
        """The least of the shortest lists of lines that mend a moment, or None if it cannot be mended."""
        number = self._reach.number_of(moment)
        if self._needs[number] is None:
            return None
        return [line for line, _ in self._steps_from(number)]

    def worst(self):
        """The greatest need of the moments of the net, or None if one of them cannot be mended."""
        needs = [self.need(moment) for moment in self._moments]
        if None in needs:
            return None
        return max(needs)

    def hopeless(self):
        """The list of the moments of the net that cannot be mended, in their order."""
        return [moment for moment in self._moments if self.need(moment) is None]

    def why(self, moment):
        """A good Cure with a moment and its need, or a good Trap with it."""
        number = self._reach.number_of(moment)
        need = self._needs[number]
        if need is None:
            return Trap(self._goal, self._all_from(number))
        numbers = [number] + [behind for _, behind in self._steps_from(number)]
        return Cure(self._goal, [(self._reach.found[at], self._needs[at]) for at in numbers])

    def _steps_from(self, number):
        """The steps of the least shortest way from a moment to the goal, as pairs (line, number behind it)."""
        steps = []
        while self._needs[number] > 0:
            nearer = self._needs[number] - 1
            right = [(line, behind) for line, behind in self._reach.steps[number] if self._needs[behind] == nearer]
            steps.append(right[0])
            number = right[0][1]
        return steps

    def _all_from(self, number):
        """The list of the moments to which lines of the repair lead from a moment, this one included."""
        numbers = [number]
        seen = {number: True}
        at = 0
        while at < len(numbers):
            for _, behind in self._reach.steps[numbers[at]]:
                if behind not in seen:
                    seen[behind] = True
                    numbers.append(behind)
            at += 1
        return [self._reach.found[each] for each in numbers]


class Cure:
    """Moments with numbers of lines, each of which leads one line nearer to the goal."""

    def __init__(self, goal, rows):
        self._goal = goal
        self._rows = list(rows)

    def rows(self):
        """The list of the pairs (moment, number)."""
        return list(self._rows)

    def holds(self, repair):
        """Whether the paper is good for a repair."""
        if [moment for moment, _ in self._rows if moment.shape != repair.shape]:
            return False
        known = {(moment.key, number): True for moment, number in self._rows}
        return all([self._is_good(repair, known, moment, number) for moment, number in self._rows])

    def _is_good(self, repair, known, moment, number):
        """Whether a moment has reached the goal, or a line leads to one that is known to be one line nearer."""
        if number <= 0:
            return number == 0 and self._goal.holds(moment)
        behind = [repair.after(moment, line) for line in repair.possible(moment)]
        return any([(after.key, number - 1) in known for after in behind])


class Trap:
    """Moments that no possible line leaves; the goal is true in none."""

    def __init__(self, goal, moments):
        self._goal = goal
        self._moments = list(moments)

    def moments(self):
        """The list of the moments."""
        return list(self._moments)

    def holds(self, repair):
        """Whether the paper is good for a repair."""
        return are_closed(self._moments, repair, self._goal)


def all_right(shape):
    """The condition that `right` is told of all branches."""
    conditions = [Condition.telling(branch, "right") for branch in shape.branches]
    return Condition.all_of(*conditions)


def _counted_needs(reach, goal):
    """For each moment the least number of lines to the goal, or None."""
    needs = [0 if goal.holds(moment) else None for moment in reach.found]
    sources = [[] for _ in needs]
    for number, steps in enumerate(reach.steps):
        for _, behind in steps:
            sources[behind].append(number)
    mended = [number for number, need in enumerate(needs) if need == 0]
    at = 0
    while at < len(mended):
        for number in sources[mended[at]]:
            if needs[number] is None:
                needs[number] = needs[mended[at]] + 1
                mended.append(number)
        at += 1
    return needs
