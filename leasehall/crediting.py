"""Counting fetches of keys that have costs: the rule "credits"."""

from leasehall.paging import fetched_keys


def credit_removals(keys, places, costs):
    """Return the removal list of the rule that removes a key without credit."""
    held = {}
    removals = []
    for key in keys:
        removed = None
        if key not in held and len(held) == places:
            held = _less_the_least(held)
            removed = min([other for other, credit in held.items() if credit == 0])
            held.pop(removed)
        held[key] = costs[key]
        removals.append(removed)
    return removals


def _less_the_least(held):
    """Return the credits of the held keys, less the least of them."""
    least = min(held.values())
    return {key: credit - least for key, credit in held.items()}


def removal_cost(keys, places, removals, costs):
    """Return the cost of a valid removal list for the places."""
    return sum([costs[key] for key in fetched_keys(keys, removals)])
