"""Nets: all moments to which the histories of a policy lead."""

from stillmeant.moments import Moment
from stillmeant.reaches import Reach


class Net:
    """The moments of a policy, by the length of their ways and then by their ways; it never changes."""

    MOST = 2000

    def __init__(self, policy):
        self._policy = policy
        # Lines are tried in ascending order from one moment after the other, so the least shortest way comes first.
        self._reach = Reach(policy, [Moment(policy.shape)], Net.MOST)

    @property
    def policy(self):
        """The policy of the net."""
        return self._policy

    def moments(self):
        """The list of the moments in their order."""
        return list(self._reach.found)

    def ways(self, moment):
        """The list of the pairs (line, moment behind it) for the possible lines, ascending."""
        steps = self._reach.steps[self._reach.number_of(moment)]
        return [(line, self._reach.found[number]) for line, number in steps]

    def way(self, moment):
        """The least of the shortest histories that lead to a moment."""
        history = []
        origin = self._reach.origins[self._reach.number_of(moment)]
        while origin is not None:
            number, line = origin
            history.append(line)
            origin = self._reach.origins[number]
        return history[::-1]

    def idle(self):
        """The ascending list of the indexes of the lines that no history has."""
        used = {line for steps in self._reach.steps for line, _ in steps}
        return [line for line in range(len(self._policy)) if line not in used]

    def __contains__(self, moment):
        return self._reach.has(moment)

    def __len__(self):
        return len(self._reach.found)

    def __repr__(self):
        return f"Net({len(self._reach.found)} moments)"
