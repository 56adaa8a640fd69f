"""Exploring orders: what may come of the letters that a world still holds."""

from leasehall.notation import read_history
from leasehall.world import World


def outcomes(lines, depth):
    """Return the list of the outcomes of all ways to go on with at most depth events."""
    start = read_history(lines)
    found = _explore(start.setup(), start.history(), depth)
    # A dict keeps each outcome once, at the place where it first appeared.
    return list({outcome: True for outcome in found})


def _explore(setup, history, depth):
    """Return the outcome of a history, and then those of all ways that continue it."""
    world = _make_world(setup, history)
    found = [_outcome(world)]
    if depth == 0:
        return found
    for event in _next_events(world, depth):
        found.extend(_explore(setup, history + [event], depth - 1))
    return found


def _make_world(setup, history):
    """Return the world of a history. A way of its own needs a world of its own."""
    rooms, error_bound, lease_length = setup
    world = World(rooms, error_bound, lease_length)
    for event in history:
        world.act(event)
    return world


def _outcome(world):
    told = [
        (number, moment, tuple(results))
        for number, _, _, _, (results, moment, _) in world.answers()
    ]
    return tuple(sorted(told, key=lambda answered: answered[0]))


def _next_events(world, depth):
    """Return the events that may be next, in the order in which ways take them."""
    letters = world.letters()
    if depth == 1:
        # Any other last event answers no read, and so it makes no new outcome.
        return [
            ("deliver", index) for index, item in enumerate(letters) if _may_answer(world, item)
        ]
    events = [("deliver", index) for index in range(len(letters))]
    return events + [("lose", index) for index in range(len(letters))]


def _may_answer(world, item):
    """Tell whether the letter of an item goes to a host at which reads wait."""
    is_up, letter = item
    if is_up:
        return False
    host = letter[1]
    return world.is_up(host) and world.host(host).waiting() != []
