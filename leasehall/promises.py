"""When an answer keeps the promise of its read.

A read is a tuple (number, session, questions, promise), and an answer is a
tuple (results, moment, evidence).
"""

from leasehall.ledger import at, first_touch
from leasehall.records import ask, cover_of


def reach(ledger, questions, moment):
    """Return the last moment up to which no commit touches the questions."""
    covers = [cover_of(question) for question in questions]
    touch = first_touch(ledger, moment, covers)
    if touch is None:
        return len(ledger)
    return touch - 1


def results(ledger, questions, moment):
    """Return the list of the answers to the questions at a moment."""
    records = at(ledger, moment)
    return [ask(records, question) for question in questions]


def is_of_moment(ledger, floor, read, answer):
    """Tell whether the results are those of a moment that is not below the floor."""
    _, _, questions, _ = read
    given, moment, _ = answer
    # The ledger has no moment below 0, whatever the floor is.
    if not max(floor, 0) <= moment <= len(ledger):
        return False
    # A tuple is never equal to a list, so results of another kind fail here.
    return given == results(ledger, questions, moment)


def is_right(ledger, time, floor, read, answer):
    """Tell whether an answer to a read is right at a time."""
    if not is_of_moment(ledger, floor, read, answer):
        return False
    _, _, questions, promise = read
    if promise[0] == "any":
        return True
    end = reach(ledger, questions, answer[1])
    if end == len(ledger):
        return True
    # The commit after the reach is the first one that the answer misses.
    missed_at, _ = ledger[end]
    return promise[0] == "age" and missed_at >= time - promise[1]


def copied_read(read):
    """Return an equal read with a list of its own."""
    number, session, questions, promise = read
    return (number, session, list(questions), promise)


def copied_answer(answer):
    """Return an equal answer with lists of its own."""
    given, moment, evidence = answer
    return (list(given), moment, list(evidence))


def session_of(event):
    """Return the session that an event told by a host is about."""
    if event[0] == "written":
        return event[1]
    return event[1][1]


def floors_after(floors, event):
    """Return the dict of the floors after a host told an event."""
    grown = dict(floors)
    session = session_of(event)
    moment = event[3] if event[0] == "written" else event[2][1]
    if moment > grown.get(session, 0):
        grown[session] = moment
    return grown
