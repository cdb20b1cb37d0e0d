"""A store that keeps everything that ever was, and answers by the words of the document."""

from plain_webs import PlainWeb

MERGING = ("merge", "squash")
PLACED = ("make", "restore", "drop")


class PlainStore:
    """Versions and words are numbers; what a branch or a word knows is a set of them."""

    def __init__(self, shape):
        self.shape = shape
        self.made = []
        self.parents = []
        self.origin = []
        self.known = {branch: set() for branch in shape.branches}
        self.said = []
        self.behind = []
        self.heard = {branch: set() for branch in shape.branches}
        many = len(shape.branches)
        self.web = PlainWeb(many, shape.bases in ("newest", "eldest"))
        self.talk = PlainWeb(many, False)
        self.log = []

    def twin(self):
        twin = PlainStore(self.shape)
        twin.made = list(self.made)
        twin.parents = list(self.parents)
        twin.origin = list(self.origin)
        twin.known = {branch: set(self.known[branch]) for branch in self.known}
        twin.said = list(self.said)
        twin.behind = list(self.behind)
        twin.heard = {branch: set(self.heard[branch]) for branch in self.heard}
        twin.web = self.web.twin()
        twin.talk = self.talk.twin()
        twin.log = list(self.log)
        return twin

    # What is asked.

    def row(self, branch):
        return [number for number, (owner, _) in enumerate(self.made) if owner == branch]

    def contents(self, branch):
        row = self.row(branch)
        return self.made[row[-1]][1] if row else ()

    def stood(self, branch):
        return tuple(place for place in (0, 1)
                     if any(place in self.made[number][1] for number in self.known[branch]))

    def meaning(self, branch):
        heard = self.heard[branch]
        tops = [number for number in heard
                if not any(number in self.behind[other] for other in heard if other != number)]
        said = {self.said[number][1] for number in tops}
        if not said:
            return "none"
        return said.pop() if len(said) == 1 else "quarrel"

    def told(self, branch):
        stands = self.contents(branch)
        meaning = self.meaning(branch)
        words = []
        if len(stands) == 2:
            words.append("twice")
        if meaning == "in" and not stands:
            words.append("gone")
        if meaning in ("out", "none") and stands:
            words.append("back")
        if meaning == "quarrel":
            words.append("quarrel")
        words.append("right")
        return words[0]

    def holds(self, branch, other):
        return set(self.row(other)) <= self.known[branch]

    def common_tops(self, branch, other):
        both = self.known[branch] & self.known[other]
        return sorted(number for number in both
                      if not any(number in self.origin[later] for later in both if later != number))

    def bases_of(self, branch, other):
        branches = list(self.shape.branches)
        tops = sorted(self.common_tops(branch, other), key=lambda number: branches.index(self.made[number][0]))
        return [self.made[number][1] for number in tops] or [()]

    def base(self, branch, other):
        tops = [self.made[number][1] for number in self.common_tops(branch, other)]
        if not tops:
            return ()
        word = self.shape.bases
        if word == "newest":
            return tops[-1]
        if word == "eldest":
            return tops[0]
        counts = [sum(place in top for top in tops) for place in (0, 1)]
        needed = len(tops) if word == "every" else 1
        return tuple(place for place in (0, 1) if counts[place] >= needed)

    def merged(self, branch, other):
        base = self.base(branch, other)
        ours = self.contents(branch)
        theirs = self.contents(other)
        digits = {(0, 0, 1): 0, (0, 1, 0): 1, (1, 0, 1): 2, (1, 1, 0): 3}
        found = []
        for place in range(self.shape.places):
            bits = (int(place in base), int(place in ours), int(place in theirs))
            worth = bits[1] if bits[1] == bits[2] else int(self.shape.table[digits[bits]])
            if worth:
                found.append(place)
        return tuple(found)

    def refusal(self, deed):
        word, branch = deed[:2]
        stands = self.contents(branch)
        words = []
        if word == "make":
            words = [("there", deed[2] in stands), ("known", deed[2] in self.stood(branch))]
        elif word == "restore":
            words = [("there", deed[2] in stands), ("new", deed[2] not in self.stood(branch))]
        elif word == "drop":
            words = [("missing", deed[2] not in stands)]
        elif word == "pick":
            words = [("missing", deed[3] not in self.contents(deed[2])), ("there", deed[4] in stands)]
        elif word in MERGING:
            crossed = self.shape.bases == "refuse" and len(self.common_tops(branch, deed[2])) > 1
            words = [("held", self.holds(branch, deed[2])), ("crossed", crossed)]
        applies = [name for name, truth in words if truth]
        return applies[0] if applies else ""

    def versions(self):
        return [(*version, parents) for version, parents in zip(self.made, self.parents)]

    def past(self, branch):
        return sorted(self.known[branch])

    def words(self):
        return list(self.said)

    def words_heard(self, branch):
        return sorted(self.heard[branch])

    @property
    def key(self):
        stood = tuple(self.stood(branch) for branch in self.shape.branches)
        return (self.web.key, self.talk.key, stood)

    # What is done.

    def do(self, deed):
        """Does a deed that is not refused."""
        word, branch = deed[:2]
        contents = set(self.contents(branch))
        if word in MERGING:
            contents = set(self.merged(branch, deed[2]))
        elif word in ("make", "restore"):
            contents.add(deed[2])
        elif word == "drop":
            contents.remove(deed[2])
        elif word == "pick":
            contents.add(deed[4])
        if word not in ("hear", "mean"):
            self.commit(branch, tuple(sorted(contents)), deed[2] if word == "merge" else None)
        if word in ("pick", "merge", "squash", "hear"):
            self.heard[branch] |= self.heard[deed[2]]
            self.talk = self.talk.step(("join", self.index(branch), self.index(deed[2])))
        if word in ("make", "restore", "pick"):
            self.say(branch, "in")
        elif word == "drop":
            self.say(branch, "in" if contents else "out")
        elif word == "mean":
            self.say(branch, deed[2])
        self.log.append(deed)

    def index(self, branch):
        return list(self.shape.branches).index(branch)

    def commit(self, branch, contents, merged):
        number = len(self.made)
        parents = self.row(branch)[-1:]
        if merged is not None:
            parents += self.row(merged)[-1:]
            self.known[branch] |= self.known[merged]
            self.web = self.web.step(("join", self.index(branch), self.index(merged)))
        self.made.append((branch, contents))
        self.parents.append(tuple(sorted(parents)))
        self.origin.append({number}.union(*[self.origin[parent] for parent in parents]))
        self.known[branch].add(number)
        label = "".join(str(place) for place in contents)
        self.web = self.web.step(("grow", self.index(branch), label))

    def say(self, branch, word):
        number = len(self.said)
        self.said.append((branch, word))
        self.heard[branch].add(number)
        self.behind.append(set(self.heard[branch]))
        self.talk = self.talk.step(("grow", self.index(branch), word))
