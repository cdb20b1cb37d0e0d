"""A web that keeps every entry it ever had, and answers by the words of the document."""


class PlainWeb:
    def __init__(self, many, timed):
        self.many = many
        self.timed = timed
        self.rows = [[] for _ in range(many)]
        self.readers = [[0] * many for _ in range(many)]
        self.made = []

    def twin(self):
        twin = PlainWeb(self.many, self.timed)
        twin.rows = [list(row) for row in self.rows]
        twin.readers = [list(reader) for reader in self.readers]
        twin.made = list(self.made)
        return twin

    def step(self, step):
        """The web behind a step: ("join", reader, other) or ("grow", row, label)."""
        after = self.twin()
        if step[0] == "join":
            _, reader, other = step
            after.readers[reader] = [max(pair) for pair in zip(self.readers[reader], self.readers[other])]
        else:
            _, row, label = step
            after.readers[row][row] = len(after.rows[row]) + 1
            after.rows[row].append((label, tuple(after.readers[row])))
            after.made.append((row, len(after.rows[row])))
        return after

    def entries(self, counts):
        """The entries, as pairs (row, number), among so many first ones of each row."""
        return [(row, number + 1) for row in range(self.many) for number in range(counts[row])]

    def knows(self, entry, other):
        """Whether one entry knows another one."""
        row, number = entry
        return self.rows[row][number - 1][1][other[0]] >= other[1]

    def uppermost(self, entries):
        return [one for one in entries
                if not any(other != one and self.knows(other, one) for other in entries)]

    def labelled(self, entries):
        return [(row, self.rows[row][number - 1][0]) for row, number in entries]

    def top_entries(self, reader):
        return self.uppermost(self.entries(self.readers[reader]))

    def common_entries(self, reader, other):
        mine = self.entries(self.readers[reader])
        theirs = self.entries(self.readers[other])
        return self.uppermost([entry for entry in mine if entry in theirs])

    def tops(self, reader):
        return self.labelled(self.top_entries(reader))

    def common(self, reader, other):
        return self.labelled(self.common_entries(reader, other))

    def aged(self, reader, other):
        tops = self.common_entries(reader, other)
        return self.labelled([entry for entry in self.made if entry in tops])

    def holds(self, reader, row):
        return self.readers[reader][row] == len(self.rows[row])

    def last(self, row):
        return self.rows[row][-1][0] if self.rows[row] else None

    def kept(self, row):
        """The numbers of the kept entries of a row."""
        return [number for number in range(1, len(self.rows[row]) + 1)
                if any(reader[row] == number for reader in self.readers)]

    def counted(self, counts):
        """How many kept entries of each row are among so many first ones."""
        return tuple(len([number for number in self.kept(row) if number <= counts[row]])
                     for row in range(self.many))

    @property
    def key(self):
        known = tuple(self.counted(reader) for reader in self.readers)
        entries = tuple(
            tuple((self.rows[row][number - 1][0], self.counted(self.rows[row][number - 1][1]))
                  for number in self.kept(row))
            for row in range(self.many))
        order = ()
        if self.timed:
            order = tuple((row, self.kept(row).index(number)) for row, number in self.made
                          if number in self.kept(row))
        return (known, entries, order)
