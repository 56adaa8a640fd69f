"""Values that several tests use, made from seeded random numbers."""

import random

from leasehall.store import Store
from store_letters import fetch, give_back, lease, write

KEYS = ["a", "b", "c", "d", "e", "f"]


def some_group(chance):
    keys = sorted(chance.sample(KEYS, chance.randint(1, 3)))
    return tuple((key, chance.choice([None, -999, -1, 0, 1, 999])) for key in keys)


def some_ledger(chance, length):
    time = 0
    ledger = []
    for _ in range(length):
        time += chance.choice([0, 0, 1, 2, 5])
        ledger.append((time, some_group(chance)))
    return ledger


def some_cover(chance):
    return (chance.choice(KEYS), chance.choice(KEYS))


def some_question(chance):
    word = chance.choice(["get", "count", "sum", "list", "least"])
    if word == "get":
        return ("get", chance.choice(KEYS))
    return (word,) + some_cover(chance)


def some_view_question(chance):
    word = chance.choice(["top", "top", "where", "where", "plain", "plain", "plain"])
    if word == "top":
        return ("top", chance.randint(1, 9)) + some_cover(chance)
    if word == "where":
        low, high = chance.choice([-999, -1, 0, 1, 999]), chance.choice([-999, -1, 0, 1, 999])
        return ("where", low, high) + some_cover(chance)
    return some_question(chance)


def seeded(seed):
    return random.Random(seed)


def some_letter(chance, numbers):
    """A letter with a new number, an old one again, or a return."""
    host = chance.randint(0, 2)
    number = chance.choice([numbers, numbers, max(0, numbers - 2)])
    kind = chance.choice(["write", "write", "lease", "lease", "return", "fetch"])
    if kind == "write":
        return write(some_group(chance), number, host)
    if kind == "lease":
        return lease(some_cover(chance), number, host)
    if kind == "return":
        return give_back(chance.randint(-1, 40), host)
    return fetch(("get", "a"), number, host)


def run_store(chance, steps):
    """Run a store; tell it with the time of each return after each step."""
    store = Store(3, chance.randint(1, 12))
    time = 0
    returned_at = {}
    for number in range(steps):
        event = chance.randint(0, 20)
        if event == 0 and store.is_up():
            store.fall()
        elif event <= 1 and not store.is_up():
            store.rise(time)
        elif event <= 6:
            time += chance.randint(1, 5)
            store.settle(time)
        else:
            store.handle(some_letter(chance, number), time)
        for index, told in enumerate(store.leases()):
            if told[7]:
                returned_at.setdefault(index, (time, store.moment()))
        yield store, time, returned_at
