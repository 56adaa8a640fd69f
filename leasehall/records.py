"""Keys, values, groups, covers and questions.

A record is a key with its value. Records are kept as a dict from keys to
values. A cover is a tuple (first, last) of two keys.
"""

LONGEST_KEY = 8
GREATEST_VALUE = 999
MOST_WRITES = 6


def is_key(text):
    """Tell whether a string is a key."""
    return 1 <= len(text) <= LONGEST_KEY and all("a" <= letter <= "z" for letter in text)


def is_value(number):
    """Tell whether an integer is a value."""
    return -GREATEST_VALUE <= number <= GREATEST_VALUE


def is_group(writes):
    """Tell whether a tuple of tuples (key, value or None) is a group."""
    if not 1 <= len(writes) <= MOST_WRITES:
        return False
    for key, value in writes:
        if not is_key(key) or (value is not None and not is_value(value)):
            return False
    keys = [key for key, _ in writes]
    return all(key < following for key, following in zip(keys, keys[1:]))


def contains(cover, key):
    """Tell whether a cover contains a key."""
    first, last = cover
    return first <= key <= last


def meets(first, second):
    """Tell whether some key is contained in both covers."""
    # Of the keys that both could share, the greater first one is the least.
    least = max(first[0], second[0])
    return contains(first, least) and contains(second, least)


def includes(outer, inner):
    """Tell whether the outer cover contains every key of the inner one."""
    first, last = inner
    if first > last:
        return True
    return contains(outer, first) and contains(outer, last)


def touches(group, cover):
    """Tell whether a cover contains the key of one of a group's writes."""
    return any(contains(cover, key) for key, _ in group)


def cover_of(question):
    """Return the cover of a question."""
    if question[0] == "get":
        return (question[1], question[1])
    return (question[1], question[2])


def within(records, cover):
    """Return the list of the records in a cover, in ascending order of keys."""
    return [(key, value) for key, value in sorted(records.items()) if contains(cover, key)]


def ask(records, question):
    """Return the answer to a question for a dict of records."""
    word = question[0]
    if word == "get":
        return records.get(question[1])
    found = within(records, cover_of(question))
    if word == "count":
        return len(found)
    if word == "sum":
        return sum([value for _, value in found])
    if word == "list":
        return tuple(found)
    return min(found, key=lambda record: (record[1], record[0]), default=None)


def after_writes(records, writes):
    """Return the dict after any number of writes, one after the other."""
    changed = dict(records)
    for key, value in writes:
        if value is None:
            changed.pop(key, None)
        else:
            changed[key] = value
    return changed


def apply(records, group):
    """Return the dict after the writes of a group."""
    return after_writes(records, group)


def patched(records, cover, group):
    """Return the dict after those writes of a group whose keys a cover contains."""
    return after_writes(records, [(key, value) for key, value in group if contains(cover, key)])
