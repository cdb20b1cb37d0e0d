"""Reaches: the moments to which the lines of a policy lead from some moments on."""

from stillmeant.errors import TooMany, UnknownMoment


class Reach:
    """The moments that are found, the nearest ones first, and the steps between them.

    A moment has the number under which it stands in `found`. There, `steps` has the pairs (line, number behind it) of
    its possible lines, and `origins` the pair (number, line) by which it was found, or None if it was a start.
    """

    def __init__(self, policy, starts, most):
        self.found = []
        self.origins = []
        self.steps = []
        self._policy = policy
        self._most = most
        self._numbers = {}
        for moment in starts:
            self._number(moment, None)
        while len(self.steps) < len(self.found):
            self._go_on(len(self.steps))

    def has(self, moment):
        """Whether a moment is found."""
        # A key leaves the shape out, so moments with other shapes may have the same one.
        return moment.shape == self._policy.shape and moment.key in self._numbers

    def number_of(self, moment):
        """The number of a moment that is found."""
        if not self.has(moment):
            raise UnknownMoment()
        return self._numbers[moment.key]

    def _go_on(self, number):
        """Find the moments behind the possible lines of a moment."""
        moment = self.found[number]
        steps = []
        for line in self._policy.possible(moment):
            behind = self._policy.after(moment, line)
            steps.append((line, self._number(behind, (number, line))))
        self.steps.append(steps)

    def _number(self, moment, origin):
        """The number of a moment, which is found now if it is new."""
        key = moment.key
        if key not in self._numbers:
            if len(self.found) == self._most:
                raise TooMany(self._most)
            self._numbers[key] = len(self.found)
            self.found.append(moment)
            self.origins.append(origin)
        return self._numbers[key]
