"""Lists of keys, and all valid removal lists for them."""


def some_keys(chance, length=None):
    length = chance.randint(0, 60) if length is None else length
    letters = "abcdefghijkl"[: chance.randint(1, 12)]
    return [chance.choice(letters) for _ in range(length)]


def all_valid(keys, places):
    """All valid removal lists."""
    lists = [([], ())]
    for key in keys:
        longer = []
        for removals, held in lists:
            if key in held or len(held) < places:
                longer.append((removals + [None], held if key in held else held + (key,)))
                continue
            for out in held:
                left = tuple(other for other in held if other != out)
                longer.append((removals + [out], left + (key,)))
        lists = longer
    return [removals for removals, _ in lists]
