"""Worlds for the tests: what can be seen of them, and long mixed histories."""

import copy

from leasehall.checker import accepts, is_true
from leasehall.errors import CacheError
from leasehall.ledger import at
from leasehall.promises import is_right
from leasehall.records import contains
from leasehall.world import World
from host_letters import host_state
from samples import some_group, some_question

SESSIONS = ["s", "t", "u"]


def some_promise(chance):
    word = chance.choice(["any", "age", "age", "newest", "newest"])
    if word == "age":
        return ("age", chance.choice([0, 1, 3, 5, 10, 20, 40, 200]))
    return (word,)


def some_questions(chance):
    return [some_question(chance) for _ in range(chance.choice([1, 1, 1, 2, 3, 4]))]


def some_world(chance):
    rooms = [chance.choice([1, 3, 6, 10, 400, 400]) for _ in range(chance.randint(1, 4))]
    return World(rooms, chance.choice([0, 0, 1, 3, 9]), chance.choice([1, 5, 12, 30, 50]))


def some_event(chance, world, bad=True):
    """An event of a world; with bad, also one that may raise an error."""
    rooms, error_bound, _ = world.setup()
    host = chance.randrange(len(rooms))
    held = len(world.letters())
    if bad and chance.random() < 0.03:
        host = chance.choice([-1, len(rooms), 99])
    roll = chance.random()
    if held and roll < 0.5:
        word = chance.choice(["deliver"] * 12 + ["lose", "double", "double"])
        index = chance.choice([0, 0, 0, held - 1, chance.randrange(held)])
        return (word, index)
    if roll < 0.62:
        return ("read", host, chance.choice(SESSIONS), some_questions(chance), some_promise(chance))
    if roll < 0.72:
        return ("write", host, chance.choice(SESSIONS), some_group(chance))
    if roll < 0.82:
        return ("nudge", host)
    if roll < 0.9:
        return chance.choice([("pass", chance.choice([1, 1, 2, 5])), ("beat",)])
    if roll < 0.94:
        return ("drift", host, chance.randint(-error_bound, error_bound))
    if roll < 0.96:
        waiting = world.waiting() + [-1, 0]
        return ("give_up", chance.choice(waiting))
    if roll < 0.975:
        return (chance.choice(["fall", "rise", "rise"]), host)
    if roll < 0.985:
        return (chance.choice(["store_fall", "store_rise", "store_rise"]),)
    return (chance.choice(["deliver", "lose", "double"]), chance.choice([-1, held, held + 5]))


def world_state(world):
    """All that can be seen of a world, shared with nothing."""
    store = world.store()
    hosts = range(len(world.setup()[0]))
    state = (
        world.setup(), world.time(), [world.reading(host) for host in hosts], world.floors(),
        world.letters(), world.crowded_out(), world.answers(), world.history(), world.waiting(),
        [world.is_up(host) for host in hosts], [host_state(world.host(host)) for host in hosts],
        (store.is_up(), store.ledger(), store.pending(), store.leases()),
    )
    return copy.deepcopy(state)


def try_event(world, event):
    """Return the events told, or None if the event raised an error."""
    try:
        return world.act(event)
    except CacheError:
        return None


def check_host(case, host, store, time, latest):
    """Point 51, for a host whose leases and notes come from a store, maybe through a relay."""
    ledger, leases = store.ledger(), store.leases()
    for cover, moment, records, _ in host.entries():
        case.assertGreaterEqual(moment, host.mark())
        expected = {key: value for key, value in at(ledger, moment).items() if contains(cover, key)}
        case.assertEqual(records, expected)
    for moment, then in host.statements().items():
        case.assertTrue(is_true(ledger, leases, time, ("at", then, moment)))
    for number, (cover, until, moment) in host.leases().items():
        case.assertEqual((leases[number][3], leases[number][4], leases[number][5]), (cover, until, moment))
        if until > latest:
            case.assertTrue(is_true(ledger, leases, time, ("lease", number)))


def check_told(case, told, floors, store, time):
    """Each answer that is told is accepted and right; return the floors after them."""
    ledger, leases = store.ledger(), store.leases()
    floors = dict(floors)
    for event in told:
        if event[0] == "written":
            _, session, _, moment = event
        else:
            _, read, answer = event
            session, moment = read[1], answer[1]
            floor = floors.get(session, 0)
            case.assertTrue(accepts(ledger, leases, time, floor, read, answer), event)
            case.assertTrue(is_right(ledger, time, floor, read, answer), event)
        floors[session] = max(floors.get(session, 0), moment)
    return {session: floor for session, floor in floors.items() if floor > 0}


def remembered(world):
    """The answers of a world, each as (ledger, time, floor, read, answer) with the ledger of its time."""
    reads = [event for event in world.history() if event[0] == "read"]
    for number, time, floor, commits, answer in world.answers():
        _, _, session, questions, promise = reads[number]
        yield world.store().ledger()[:commits], time, floor, (number, session, questions, promise), answer
