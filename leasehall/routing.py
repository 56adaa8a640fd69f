"""Routing: which host keys and questions go to, and which keys move between rings."""

from leasehall.records import cover_of


def route(ring, up, key):
    """Return the first home of a key that is up, or None if none is."""
    for host in ring.homes(key):
        if host in up:
            return host
    return None


def route_questions(ring, up, questions):
    """Return the host to which the most questions are routed, or None if none is."""
    counts = {}
    for question in questions:
        first, _ = cover_of(question)
        host = route(ring, up, first)
        if host is not None:
            counts[host] = counts.get(host, 0) + 1
    return min(counts, key=lambda host: (-counts[host], host), default=None)


def moves(before, after, keys):
    """Return the tuples (key, old, new) for the keys whose home is another one after."""
    found = []
    for key in sorted(set(keys)):
        old = _home(before, key)
        new = _home(after, key)
        if old != new:
            found.append((key, old, new))
    return found


def _home(ring, key):
    """Return the home of a key, or None in a ring without hosts."""
    if not ring.hosts():
        return None
    return ring.home(key)
