"""Shorter histories: what a read number needs to get the answer that it has."""

from leasehall.errors import Malformed, NotFound
from leasehall.notation import read_history


def shorten(lines, number):
    """Return a history with an equal answer to a read number, without needless lines."""
    wanted = _answer_to(read_history(lines), number)
    if wanted is None:
        raise NotFound()
    kept = list(lines)
    needless = _last_needless(kept, number, wanted)
    while needless is not None:
        kept.pop(needless)
        needless = _last_needless(kept, number, wanted)
    return kept


def _last_needless(lines, number, wanted):
    """Return the index of the last needless line, or None."""
    # The first line is never needless.
    for index in range(len(lines) - 1, 0, -1):
        if _makes_answer(lines[:index] + lines[index + 1:], number, wanted):
            return index
    return None


def _makes_answer(lines, number, wanted):
    """Tell whether lines can be read and make a world with the wanted answer."""
    try:
        return _answer_to(read_history(lines), number) == wanted
    except Malformed:
        return False


def _answer_to(world, number):
    """Return the answer of a world to a read number, or None."""
    for answered in world.answers():
        if answered[0] == number:
            return answered[4]
    return None
