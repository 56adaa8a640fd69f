"""Leases in the form in which the store tells of them.

A lease is a tuple
(host, incarnation, number, cover, until, moment, time, is_returned).
"""


def is_active(lease, time):
    """Tell whether a lease has neither been returned nor ended."""
    until = lease[4]
    return not is_returned(lease) and time < until


def owner_of(lease):
    """Return the host and the incarnation to which a lease belongs."""
    return lease[:2]


def request_of(lease):
    """Return the request (host, incarnation, number) that a lease answers."""
    return lease[:3]


def leased_cover(lease):
    """Return the cover of a lease."""
    return lease[3]


def granted_at(lease):
    """Return the moment at which a lease was granted."""
    return lease[5]


def is_returned(lease):
    """Tell whether a lease has been returned."""
    return lease[7]


def as_returned(lease):
    """Return the lease with the flag that it has been returned."""
    return lease[:7] + (True,)
