"""A board: the views of one host, and the notes that keep them up to date."""

from leasehall.errors import Full, NotFound
from leasehall.views import make_view


class Board:
    """Views by number, each as the tuple (view, moment); no moment is below the mark."""

    def __init__(self):
        self._mark = 0
        self._early = {}
        self._views = {}

    def add(self, number, question, records, moment):
        """Add a view with the records of a moment; tell whether it stands."""
        if number in self._views:
            raise Full()
        if moment > self._mark and not self._views:
            self._mark = moment
            self._early = {c: group for c, group in self._early.items() if c > moment}
        stands = moment >= self._mark
        if stands:
            self._views[number] = (make_view(question, records), moment)
        self._move_mark()
        return stands

    def remove(self, number):
        """Remove a view."""
        if number not in self._views:
            raise NotFound()
        self._views.pop(number)

    def note(self, c, group):
        """Take the note of a commit."""
        if c > self._mark:
            self._early[c] = group
        self._move_mark()

    def mark(self):
        """Return the mark."""
        return self._mark

    def numbers(self):
        """Return the ascending list of the numbers of the views."""
        return sorted(self._views)

    def answer(self, number):
        """Return the answer of a view and its moment."""
        if number not in self._views:
            raise NotFound()
        view, moment = self._views[number]
        return (view.answer(), moment)

    def _move_mark(self):
        while self._mark + 1 in self._early:
            group = self._early.pop(self._mark + 1)
            for number, (view, moment) in list(self._views.items()):
                if moment == self._mark:
                    view.take(group)
                    self._views[number] = (view, moment + 1)
            self._mark += 1
