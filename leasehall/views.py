"""Views: the answer to one question, kept up to date by groups alone."""

from leasehall.records import ask, cover_of, patched, within


def view_cover(question):
    """Return the cover of a question of a view."""
    if question[0] in ("top", "where"):
        return question[-2:]
    return cover_of(question)


def ask_view(records, question):
    """Return the answer to a question of a view for a dict of records."""
    word = question[0]
    if word == "top":
        return _top(within(records, view_cover(question)), question[1])
    if word == "where":
        _, low, high, _, _ = question
        found = within(records, view_cover(question))
        return tuple([(key, value) for key, value in found if low <= value <= high])
    return ask(records, question)


def _top(found, count):
    ranked = sorted(found, key=lambda record: (-record[1], record[0]))
    return tuple(ranked[:count])


class View:
    """The records in the cover of a question, at a moment that groups move on."""

    def __init__(self, question, records):
        self._question = question
        self._cover = view_cover(question)
        self._inside = dict(within(records, self._cover))

    def take(self, group):
        """Take the group of the next commit."""
        self._inside = patched(self._inside, self._cover, group)

    def answer(self):
        """Return the answer to the question."""
        return ask_view(self._inside, self._question)


def make_view(question, records):
    """Return a view for a question, with the records of a moment."""
    return View(question, records)
