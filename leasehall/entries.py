"""Entries: the records of covers at moments, as a host keeps them."""

from leasehall.records import ask, cover_of, includes, patched


class Entry:
    """A cover with a moment, the records in it at this moment, and a stamp."""

    def __init__(self, cover, moment, records, stamp):
        self.cover = cover
        self.moment = moment
        self.records = dict(records)
        self.stamp = stamp

    def weight(self):
        """Return one more than the number of records."""
        return len(self.records) + 1

    def answers(self, question):
        """Tell whether the entry's cover contains the cover of a question."""
        return includes(self.cover, cover_of(question))

    def patch(self, group):
        """Move to the next moment, whose commit has the group."""
        self.records = patched(self.records, self.cover, group)
        self.moment += 1

    def told(self):
        """Return the tuple (cover, moment, records, stamp)."""
        return (self.cover, self.moment, dict(self.records), self.stamp)


class Shelf:
    """The entries of one incarnation of a host, and the notes that patch them.

    The mark is the moment up to which all notes are known. The log has the
    groups that moved the mark, the early notes those beyond it.
    """

    def __init__(self, room):
        self._room = room
        self._mark = 0
        self._log = {}
        self._early = {}
        self._entries = []
        self._next_stamp = 0

    def mark(self):
        """Return the mark."""
        return self._mark

    def is_empty(self):
        """Tell whether there are no entries."""
        return not self._entries

    def told(self):
        """Return the list of the entries as Entry.told returns them."""
        return [entry.told() for entry in self._entries]

    def has_cover(self, cover):
        """Tell whether the cover of an entry contains a cover."""
        return any(includes(entry.cover, cover) for entry in self._entries)

    def note(self, number, group):
        """Take the group of a commit."""
        if number > self._mark:
            self._early[number] = group
            self._move_mark()

    def jump(self, moment):
        """Let the mark be a later moment, while there are no entries."""
        self._start_at(moment)
        self._move_mark()

    def install(self, cover, moment, records):
        """Make an entry of the records of a moment, if the notes suffice for it."""
        if moment > self._mark and not self._entries:
            self._start_at(moment)
        entry = Entry(cover, moment, records, self._next_stamp)
        while entry.moment < self._mark:
            if entry.moment + 1 not in self._log:
                return
            entry.patch(self._log[entry.moment + 1])
        self._entries = [
            old
            for old in self._entries
            if not includes(cover, old.cover) or old.moment > entry.moment
        ]
        self._entries.append(entry)
        self._next_stamp += 1
        # Only now, so that early notes patch the new entry, too.
        self._move_mark()

    def common_moments(self, questions):
        """Return the moments at which entries answer all questions, the last one first."""
        moments = {entry.moment: True for entry in self._entries}
        return [
            moment
            for moment in sorted(moments, reverse=True)
            if all([self._fitting(question, moment) for question in questions])
        ]

    def use(self, question, moment):
        """Answer a question at one of its moments by the entry that was used last."""
        entry = max(self._fitting(question, moment), key=lambda fitting: fitting.stamp)
        entry.stamp = self._next_stamp
        self._next_stamp += 1
        return ask(entry.records, question)

    def make_room(self):
        """Remove the entries that were used the longest ago, until the rest has room."""
        kept = sorted(self._entries, key=lambda entry: entry.stamp)
        while sum([entry.weight() for entry in kept]) > self._room:
            kept.pop(0)
        stamps = [entry.stamp for entry in kept]
        self._entries = [entry for entry in self._entries if entry.stamp in stamps]

    def _fitting(self, question, moment):
        return [entry for entry in self._entries if entry.moment == moment and entry.answers(question)]

    def _start_at(self, moment):
        self._mark = moment
        self._log = {}

    def _move_mark(self):
        while self._mark + 1 in self._early:
            self._take_next()
        # A jump of the mark leaves notes behind that no entry needs any more.
        self._early = {
            number: group for number, group in self._early.items() if number > self._mark
        }

    def _take_next(self):
        group = self._early.pop(self._mark + 1)
        for entry in self._entries:
            if entry.moment == self._mark:
                entry.patch(group)
        self._mark += 1
        self._log[self._mark] = group
