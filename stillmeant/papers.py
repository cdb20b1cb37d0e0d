"""Papers: what shows that a condition is never true under a policy, or that it is true at some time."""

from stillmeant.errors import Impossible
from stillmeant.moments import Moment


class Verdict:
    """What is found of a condition; as long as it is open, it holds for no policy."""

    WORD = "open"

    def __init__(self, condition):
        self._condition = condition

    @property
    def condition(self):
        """The condition of which it is found."""
        return self._condition

    def holds(self, policy):
        """Whether the paper is good for a policy."""
        return False

    def __repr__(self):
        return f"Verdict({self.WORD})"


class Never(Verdict):
    """Moments that no possible line leaves, the first one among them; the condition is true in none."""

    WORD = "never"

    def __init__(self, condition, moments):
        super().__init__(condition)
        self._moments = list(moments)

    def moments(self):
        """The list of the moments."""
        return list(self._moments)

    def holds(self, policy):
        """Whether the paper is good for a policy."""
        if Moment(policy.shape) not in self._moments:
            return False
        return are_closed(self._moments, policy, self._condition)

    def __repr__(self):
        return f"Verdict({self.WORD})"


class Ever(Verdict):
    """A history behind which the condition is true."""

    WORD = "ever"

    def __init__(self, condition, history):
        super().__init__(condition)
        self._history = list(history)

    def history(self):
        """The list of the indexes of lines."""
        return list(self._history)

    def holds(self, policy):
        """Whether the paper is good for a policy."""
        try:
            moment = policy.played(*self._history)
        except Impossible:
            return False
        return self._condition.holds(moment)

    def __repr__(self):
        return f"Verdict({self.WORD})"


def judged(net, condition):
    """A good paper about a condition under the policy of a net."""
    moments = net.moments()
    for moment in moments:
        if condition.holds(moment):
            return Ever(condition, net.way(moment))
    return Never(condition, moments)


def are_closed(moments, policy, condition):
    """Whether each possible line leads from each of the moments to one of them, and the condition is true in none."""
    if [moment for moment in moments if moment.shape != policy.shape]:
        return False
    distinct = {moment.key: moment for moment in moments}
    for moment in distinct.values():
        if condition.holds(moment):
            return False
        for line in policy.possible(moment):
            if policy.after(moment, line).key not in distinct:
                return False
    return True
