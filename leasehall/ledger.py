"""What a ledger tells: its moments and the commits that touch covers.

A ledger is a list of commits (time, group). Commit c, counted from 1, has
the index c - 1. The moment c is the state of the store after c commits.
"""

from leasehall.records import after_writes, touches

MOST_COMMITS = 200


def at(ledger, moment):
    """Return the dict of the records after the first commits."""
    # One pass over all writes, because a dict for each commit would be
    # copied as often as there are commits.
    writes = [write for _, group in ledger[:moment] for write in group]
    return after_writes({}, writes)


def moment_at(ledger, time):
    """Return the number of commits whose time is at most the given one."""
    return len([then for then, _ in ledger if then <= time])


def first_touch(ledger, moment, covers):
    """Return the first commit after the moment that touches a cover, or None."""
    for number, (_, group) in enumerate(ledger, start=1):
        if number > moment and any(touches(group, cover) for cover in covers):
            return number
    return None
