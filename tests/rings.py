"""Rings for the tests, and keys of which the homes are known."""

from leasehall.ring import Ring

LETTERS = "abcdefghijklmnopqrstuvwxyz"

# The hosts and places of a ring, and keys with their homes in it.
PLACES = {0: 3, 1: 2, 2: 4}
HOMES = {"aa": [0, 1, 2], "xa": [1, 2, 0], "caa": [0, 2, 1], "cza": [2, 0, 1]}


def ring_of(places):
    ring = Ring()
    for host, count in places.items():
        ring.add(host, count)
    return ring


def some_places(chance, least=1):
    hosts = chance.sample(range(26), chance.randint(least, 8))
    return {host: chance.randint(1, 6) for host in hosts}


def some_keys(chance, count=40):
    words = []
    for _ in range(count):
        words.append("".join(chance.choice(LETTERS) for _ in range(chance.randint(1, 8))))
    return words


def state(ring):
    return (ring.hosts(), ring.points())
