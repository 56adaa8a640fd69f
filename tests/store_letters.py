"""Short names for the letters of a store, as the tests of the store use them."""

A = (("a", 1),)
B = (("b", 2),)
C = (("c", 3),)
NO_A = (("a", None),)
AB = (("a", 7), ("b", 8))


def fetch(question, number=0, host=0, incarnation=0):
    return ("fetch", host, incarnation, number, question)


def write(group, number=0, host=0, incarnation=0):
    return ("write", host, incarnation, number, group)


def lease(cover, number=0, host=0, incarnation=0):
    return ("lease", host, incarnation, number, cover)


def give_back(index, host=0, incarnation=0):
    return ("return", host, incarnation, index)


def missing(first, host=0, incarnation=0):
    return ("missing", host, incarnation, first)


def notes(hosts, number, time, group):
    return [("note", host, number, time, group) for host in range(hosts)]


def committed(hosts, letter, moment, time):
    """The letters that a commit of a write sends."""
    _, host, incarnation, number, group = letter
    written = ("written", host, incarnation, number, moment, time)
    return [written] + notes(hosts, moment, time, group)


def state(store):
    return (store.is_up(), store.ledger(), store.pending(), store.leases())
