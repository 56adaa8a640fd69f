"""Entries: the records of a cover at a moment, as a host keeps them."""

from leasehall.records import after_writes, contains, cover_of, includes


class Entry:
    """A cover with a moment, the records in it at this moment, and a stamp."""

    def __init__(self, cover, moment, records, stamp):
        self.cover = cover
        self.moment = moment
        self.records = dict(records)
        self.stamp = stamp

    def weight(self):
        """Return one more than the number of records."""
        return len(self.records) + 1

    def answers(self, question):
        """Tell whether the entry's cover contains the cover of a question."""
        return includes(self.cover, cover_of(question))

    def patch(self, group):
        """Move to the next moment, whose commit has the group."""
        inside = [(key, value) for key, value in group if contains(self.cover, key)]
        self.records = after_writes(self.records, inside)
        self.moment += 1

    def told(self):
        """Return the tuple (cover, moment, records, stamp)."""
        return (self.cover, self.moment, dict(self.records), self.stamp)
