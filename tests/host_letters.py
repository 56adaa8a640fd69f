"""Short names for the letters to a host and from it, as the tests of hosts use them."""

import copy

from leasehall.host import Host

ALL = ("a", "z")


def answer(number, records, moment, time, cover=ALL, host=0, incarnation=0):
    result = tuple(sorted(records.items()))
    question = ("list",) + cover
    return ("answer", host, incarnation, number, question, result, moment, time)


def written(number, moment, time, host=0, incarnation=0):
    return ("written", host, incarnation, number, moment, time)


def leased(number, lease, until, moment, time, cover=ALL, host=0, incarnation=0):
    return ("leased", host, incarnation, number, lease, cover, until, moment, time)


def denied(number, host=0, incarnation=0):
    return ("denied", host, incarnation, number)


def recall(lease, host=0, incarnation=0):
    return ("recall", host, incarnation, lease)


def note(c, time, group, host=0):
    return ("note", host, c, time, group)


def beat(time, moment, host=0):
    return ("beat", host, time, moment)


def fetch(number, cover=ALL, host=0, incarnation=0):
    return ("fetch", host, incarnation, number, ("list",) + cover)


def lease(number, cover=ALL, host=0, incarnation=0):
    return ("lease", host, incarnation, number, cover)


def missing(first, host=0, incarnation=0):
    return ("missing", host, incarnation, first)


def give_back(number, host=0, incarnation=0):
    return ("return", host, incarnation, number)


def put(key, value):
    """A group of one write."""
    return ((key, value),)


def any_read(number=0, session="s", questions=None):
    return (number, session, questions or [("get", "a")], ("any",))


def age_read(age, number=0, session="s", questions=None):
    return (number, session, questions or [("get", "a")], ("age", age))


def newest_read(number=0, session="s", questions=None):
    return (number, session, questions or [("get", "a")], ("newest",))


def told(read, results, moment, evidence):
    """The event of an answered read."""
    return ("answered", read, (results, moment, evidence))


def host_with(entries, room=400, error_bound=0, statements=()):
    """A host with entries (cover, moment, records) in this order; the clock shows 0."""
    host = Host(0, room, error_bound)
    for cover, moment, records in entries:
        number = host.open_fetch(cover)[3]
        host.handle(answer(number, records, moment, 0, cover), 0, {})
    for moment, time in statements:
        host.handle(("written", 0, 0, 999, moment, time), 0, {})
    return host


def host_state(host):
    """All that can be seen of a host, shared with nothing."""
    state = (
        host.incarnation(), host.mark(), host.waiting(), host.entries(), host.leases(),
        host.statements(), host.requests(),
    )
    return copy.deepcopy(state)
