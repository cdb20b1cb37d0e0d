"""Webs of entries: who knows how much, and which entries stand uppermost."""

from stillmeant.errors import InvalidNumber, Untimed
from stillmeant.values import is_index, is_number


class Web:
    """Rows of entries and as many readers; it never changes.

    All that can be asked depends on the key alone, so the key is all that is stored.
    """

    def __init__(self, many, *, timed=False):
        if not is_number(many) or many not in (2, 3):
            raise InvalidNumber(many)
        self._many = many
        self._timed = timed
        self._key = (((0,) * many,) * many, ((),) * many, ())

    @property
    def many(self):
        """The number of rows."""
        return self._many

    @property
    def timed(self):
        """Whether the order in which the entries were made counts."""
        return self._timed

    @property
    def key(self):
        """The tuple (known, entries, order) of the kept entries."""
        return self._key

    def joined(self, reader, other):
        """The web in which the first reader also knows what the second one knows."""
        self._check(reader, other)
        known, entries, order = self._key
        counts = tuple([max(mine, theirs) for mine, theirs in zip(known[reader], known[other])])
        return _following(self, _exchanged(known, reader, counts), entries, order)

    def grown(self, row, label):
        """The web with one more entry in the row, known to the reader of this row."""
        self._check(row)
        known, entries, order = self._key
        place = len(entries[row])
        counts = _exchanged(known[row], row, place + 1)
        longer = entries[row] + ((label, counts),)
        if self._timed:
            order = order + ((row, place),)
        return _following(self, _exchanged(known, row, counts), _exchanged(entries, row, longer), order)

    def tops(self, reader):
        """The list of the tops of the reader, as pairs (row, label) by ascending rows."""
        self._check(reader)
        return self._labelled(self._key[0][reader])

    def common(self, reader, other):
        """The list of the common tops of both readers, as pairs (row, label) by ascending rows."""
        self._check(reader, other)
        return self._labelled(self._shared(reader, other))

    def aged(self, reader, other):
        """The list of the common tops in the order in which they were made."""
        if not self._timed:
            raise Untimed()
        self._check(reader, other)
        _, entries, order = self._key
        counts = self._shared(reader, other)
        rows = _uppermost(entries, counts)
        return [(row, entries[row][place][0]) for row, place in order if row in rows and place == counts[row] - 1]

    def holds(self, reader, row):
        """Whether the reader knows all entries of the row."""
        self._check(reader, row)
        known, entries, _ = self._key
        return known[reader][row] == len(entries[row])

    def last(self, row):
        """The label of the last entry of the row, or None."""
        self._check(row)
        made = self._key[1][row]
        if not made:
            return None
        return made[-1][0]

    def _check(self, *numbers):
        for number in numbers:
            if not is_index(number, self._many):
                raise InvalidNumber(number)

    def _shared(self, reader, other):
        known = self._key[0]
        return [min(mine, theirs) for mine, theirs in zip(known[reader], known[other])]

    def _labelled(self, counts):
        entries = self._key[1]
        return [(row, entries[row][counts[row] - 1][0]) for row in _uppermost(entries, counts)]

    def __eq__(self, other):
        return isinstance(other, Web) and self._timed == other._timed and self._key == other._key

    def __len__(self):
        return len([entry for row in self._key[1] for entry in row])

    def __repr__(self):
        return f"Web({len(self)} kept)"


def _exchanged(items, at, item):
    """The tuple with another item at one index."""
    return items[:at] + (item,) + items[at + 1:]


def _uppermost(entries, counts):
    """The ascending rows of the uppermost ones among so many first entries of each row.

    An entry knows all earlier ones of its row, so only the last one of each row can be uppermost.
    """
    rows = [row for row in range(len(counts)) if counts[row] > 0]
    lasts = [entries[row][counts[row] - 1][1] for row in rows]
    # Each last entry knows itself: it is below no other one if it is the only one that does.
    return [row for row in rows if len([numbers for numbers in lasts if numbers[row] >= counts[row]]) == 1]


def _following(web, known, entries, order):
    """The web behind another one, without the entries that are not kept any more."""
    kept = [sorted({counts[row] for counts in known if counts[row] > 0}) for row in range(web.many)]
    made = Web(web.many, timed=web.timed)
    made._key = (
        tuple([_recounted(counts, kept) for counts in known]),
        tuple([_chosen(entries[row], kept, row) for row in range(web.many)]),
        tuple([(row, kept[row].index(place + 1)) for row, place in order if place + 1 in kept[row]]),
    )
    return made


def _chosen(made, kept, row):
    """The kept entries of one row, with their numbers counted anew."""
    chosen = [made[number - 1] for number in kept[row]]
    return tuple([(label, _recounted(counts, kept)) for label, counts in chosen])


def _recounted(counts, kept):
    """For each row, how many kept entries are among so many first ones."""
    return tuple([len([number for number in row if number <= count]) for count, row in zip(counts, kept)])
