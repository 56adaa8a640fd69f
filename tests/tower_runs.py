"""Towers for the tests: what can be seen of them, and long mixed runs."""

import copy

from leasehall.errors import CacheError
from leasehall.tower import Tower
from host_letters import host_state
from samples import some_group
from worlds import SESSIONS, some_promise, some_questions


class Setup:
    """A tower with what it was made of."""

    def __init__(self, relay_room, rooms, error_bound, lease_length):
        self.made_of = (relay_room, rooms, error_bound, lease_length)
        self.tower = Tower(relay_room, rooms, error_bound, lease_length)
        self.count = len(rooms)
        self.error_bound = error_bound


def some_setup(chance):
    rooms = [chance.choice([2, 8, 400, 400]) for _ in range(chance.randint(1, 4))]
    room = chance.choice([2, 10, 400, 400])
    return Setup(room, rooms, chance.choice([0, 0, 1, 3]), chance.choice([2, 10, 30, 50]))


def some_event(chance, setup, bad=True):
    """An event of a tower; with bad, also one that may raise an error."""
    tower = setup.tower
    host, who = chance.randrange(setup.count), chance.randrange(-1, setup.count)
    if bad and chance.random() < 0.03:
        host = who = chance.choice([-2, setup.count, 99])
    roll = chance.random()
    if roll < 0.57:
        net = chance.choice(["upper", "lower"])
        held = len(tower.letters(net))
        if held:
            index = chance.choice([0, 0, 0, held - 1, chance.randrange(held)])
            return (chance.choice(["deliver"] * 14 + ["lose", "double", "double"]), net, index)
    if roll < 0.66:
        return ("read", host, chance.choice(SESSIONS), some_questions(chance), some_promise(chance))
    if roll < 0.71:
        return ("write", some_group(chance))
    if roll < 0.82:
        return ("nudge", who)
    if roll < 0.93:
        return chance.choice([("pass", chance.choice([1, 1, 2, 4])), ("beat",), ("relay_beat",)])
    if roll < 0.95:
        return ("drift", who, chance.randint(-setup.error_bound, setup.error_bound))
    if roll < 0.965:
        return ("give_up", chance.choice(tower.waiting() + [-1, 0]))
    if roll < 0.98:
        return (chance.choice(["fall", "rise", "rise", "rise"]), who)
    if roll < 0.99:
        return (chance.choice(["store_fall", "store_rise", "store_rise"]),)
    return (chance.choice(["deliver", "lose", "double"]), chance.choice(["upper", "lower"]), -1)


def try_event(tower, event):
    """Return the events told, or None if the event raised an error."""
    try:
        return tower.act(event)
    except CacheError:
        return None


def calm(setup, rounds=1):
    """Nudge all who are up, deliver what is held, and beat; yield what each event tells."""
    tower = setup.tower
    for _ in range(rounds):
        for who in range(-1, setup.count):
            if tower.is_up(who):
                yield tower.act(("nudge", who))
        for _ in range(600):
            for net in ["upper", "lower"]:
                if tower.letters(net):
                    yield tower.act(("deliver", net, 0))
        for event in [("pass", 1), ("beat",)] + [("relay_beat",)] * tower.is_up(-1):
            yield tower.act(event)


def store_state(store):
    return (store.is_up(), store.ledger(), store.pending(), store.leases())


def tower_state(setup):
    """All that can be seen of a tower, shared with nothing."""
    tower = setup.tower
    state = (
        tower.time(), tower.floors(), tower.answers(), tower.waiting(), tower.letters("upper"),
        tower.letters("lower"), store_state(tower.store()), host_state(tower.relay().host()),
        tower.relay().holders(), [host_state(tower.host(index)) for index in range(setup.count)],
        [tower.is_up(who) for who in range(-1, setup.count)],
    )
    return copy.deepcopy(state)
