"""Bundles: letters that travel together, because they have one receiver.

An item is a tuple (is_up, letter), as a network holds it.
"""


def receiver(item):
    """Return "store", or the host that the letter of an item names."""
    is_up, letter = item
    if is_up:
        return "store"
    return letter[1]


def pack(letters, limit):
    """Return the list of the bundles (receiver, items), with at most limit items each."""
    bundles = []
    # The items of the bundle that was made last for each receiver.
    latest = {}
    for item in letters:
        to = receiver(item)
        if to not in latest or len(latest[to]) >= limit:
            latest[to] = []
            bundles.append((to, latest[to]))
        latest[to].append(item)
    return bundles


def unpack(bundles):
    """Return the list of the items of all bundles, one bundle after the other."""
    return [item for _, items in bundles for item in items]
