"""Counting fetches: a cache of a few places that serves a list of keys.

A removal list has one entry for each key that is served: None, or the key
that is removed to make a place for it.
"""


def oldest_removals(keys, places):
    """Return the removal list of the rule that removes the key unused the longest."""
    return _removals(keys, places, _oldest)


def farthest_removals(keys, places):
    """Return the removal list of the rule that removes the key needed again the latest."""
    return _removals(keys, places, _farthest)


def is_valid(keys, places, removals):
    """Tell whether a removal list removes a held key exactly where one must be."""
    if len(keys) != len(removals):
        return False
    held = {}
    for key, removed in zip(keys, removals):
        must_remove = key not in held and len(held) == places
        if must_remove != (removed is not None):
            return False
        if removed is not None:
            if removed not in held:
                return False
            held.pop(removed)
        held[key] = True
    return True


def fetched_keys(keys, removals):
    """Return the list of the keys that are fetched with a valid removal list."""
    held = {}
    fetched = []
    for key, removed in zip(keys, removals):
        if key not in held:
            fetched.append(key)
        if removed is not None:
            held.pop(removed)
        held[key] = True
    return fetched


def fetch_count(keys, places, removals):
    """Return the number of fetches with a valid removal list for the places."""
    return len(fetched_keys(keys, removals))


def phase_starts(keys, places):
    """Return the indexes at which the phases begin."""
    starts = []
    phase = {}
    for index, key in enumerate(keys):
        if index == 0 or (key not in phase and len(phase) == places):
            starts.append(index)
            phase = {}
        phase[key] = True
    return starts


def _removals(keys, places, choose):
    held = {}
    removals = []
    for index, key in enumerate(keys):
        removed = None
        if key not in held and len(held) == places:
            removed = choose(keys, index, list(held))
            held.pop(removed)
        held[key] = True
        removals.append(removed)
    return removals


def _oldest(keys, index, held):
    uses = list(reversed(keys[:index]))
    return max(held, key=lambda key: uses.index(key))


def _farthest(keys, index, held):
    uses = keys[index:]
    unused = [key for key in held if key not in uses]
    if unused:
        return min(unused)
    return max(held, key=lambda key: uses.index(key))
