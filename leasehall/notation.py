"""Events and histories of a world as lines of text.

Each function that reads a text raises Malformed(0) if the text has not the form.
"""

from leasehall.errors import CacheError, Malformed
from leasehall.records import is_group, is_key
from leasehall.world import World

MOST_DIGITS = 6
MOST_QUESTIONS = 4
MOST_HOSTS = 4

# The least and the greatest integer of each kind.
BOUNDS = {
    "age": (0, 200),
    "error": (-9, 9),
    "error bound": (0, 9),
    "index": (0, 999999),
    "lease length": (1, 50),
    "room": (1, 400),
    "steps": (1, 20),
}

# The kinds of the integers behind the word of an event.
INTEGERS = {
    "pass": ("steps",),
    "beat": (),
    "drift": ("index", "error"),
    "deliver": ("index",),
    "lose": ("index",),
    "double": ("index",),
    "nudge": ("index",),
    "give_up": ("index",),
    "fall": ("index",),
    "rise": ("index",),
    "store_fall": (),
    "store_rise": (),
}

# How many keys stand behind the word of a question.
KEYS = {"get": 1, "count": 2, "sum": 2, "list": 2, "least": 2}


def write_event(event):
    """Return the line of an event."""
    if event[0] == "read":
        word, host, session, questions, promise = event
        parts = [word, host, session, write_questions(questions), write_promise(promise)]
    elif event[0] == "write":
        word, host, session, group = event
        parts = [word, host, session, write_group(group)]
    else:
        parts = event
    return " ".join([str(part) for part in parts])


def write_history(world):
    """Return the list of the lines of a world's history."""
    rooms, error_bound, lease_length = world.setup()
    numbers = [error_bound, lease_length] + rooms
    first = " ".join(["world"] + [str(number) for number in numbers])
    return [first] + [write_event(event) for event in world.history()]


def write_group(group):
    """Return the text of a group."""
    return ",".join([f"{key}={write_value(value)}" for key, value in group])


def write_value(value):
    """Return the text of an integer or None."""
    if value is None:
        return "none"
    return str(value)


def write_questions(questions):
    """Return the text of a list of questions."""
    return ",".join([":".join(question) for question in questions])


def write_promise(promise):
    """Return the text of a promise."""
    return " ".join([str(part) for part in promise])


def read_event(line):
    """Return the event of a line."""
    parts = line.split(" ")
    word = parts[0]
    if word == "read":
        return _read_read(parts)
    if word == "write":
        return _read_write(parts)
    if word not in INTEGERS or len(parts) != 1 + len(INTEGERS[word]):
        raise Malformed(0)
    numbers = [read_number(kind, text) for kind, text in zip(INTEGERS[word], parts[1:])]
    return (word,) + tuple(numbers)


def _read_read(parts):
    if len(parts) < 5:
        raise Malformed(0)
    word, host, session, questions = parts[:4]
    promise = parts[4:]
    return (
        word,
        read_number("index", host),
        read_name(session),
        read_questions(questions),
        read_promise(promise),
    )


def _read_write(parts):
    if len(parts) != 4:
        raise Malformed(0)
    word, host, session, group = parts
    return (word, read_number("index", host), read_name(session), read_group(group))


def read_integer(text, most_digits=MOST_DIGITS):
    """Return the integer of a text."""
    digits = text[1:] if text.startswith("-") else text
    if not 1 <= len(digits) <= most_digits or not all("0" <= digit <= "9" for digit in digits):
        raise Malformed(0)
    number = int(text)
    # Zeros in front and a negative zero would be read, but are not written so.
    if str(number) != text:
        raise Malformed(0)
    return number


def read_number(kind, text):
    """Return the integer of a text, within the bounds of its kind."""
    least, most = BOUNDS[kind]
    number = read_integer(text)
    if not least <= number <= most:
        raise Malformed(0)
    return number


def read_name(text):
    """Return a text that is a session or a key; both have the same form."""
    if not is_key(text):
        raise Malformed(0)
    return text


def read_value(text):
    """Return the value or None of a text."""
    if text == "none":
        return None
    return read_integer(text)


def read_group(text):
    """Return the group of a text."""
    writes = []
    for part in text.split(","):
        key, _, value = part.partition("=")
        writes.append((key, read_value(value)))
    group = tuple(writes)
    if not is_group(group):
        raise Malformed(0)
    return group


def read_question(text):
    """Return the question of a text."""
    parts = text.split(":")
    word = parts[0]
    if word not in KEYS or len(parts) != 1 + KEYS[word]:
        raise Malformed(0)
    return (word,) + tuple([read_name(key) for key in parts[1:]])


def read_questions(text):
    """Return the list of the questions of a text."""
    questions = [read_question(part) for part in text.split(",")]
    if len(questions) > MOST_QUESTIONS:
        raise Malformed(0)
    return questions


def read_promise(parts):
    """Return the promise of the parts of a line behind its questions."""
    word = parts[0]
    if word in ("any", "newest") and len(parts) == 1:
        return (word,)
    if word == "age" and len(parts) == 2:
        return (word, read_number("age", parts[1]))
    raise Malformed(0)


def read_history(lines):
    """Return the world of the lines of a history."""
    if not lines:
        raise Malformed(0)
    world = _read_world(lines[0])
    for index, line in enumerate(lines):
        if index > 0:
            _act_as_written(world, line, index)
    return world


def _read_world(line):
    parts = line.split(" ")
    rooms = parts[3:]
    if parts[0] != "world" or not 1 <= len(rooms) <= MOST_HOSTS:
        raise Malformed(0)
    error_bound = read_number("error bound", parts[1])
    lease_length = read_number("lease length", parts[2])
    return World([read_number("room", room) for room in rooms], error_bound, lease_length)


def _act_as_written(world, line, index):
    _, error_bound, _ = world.setup()
    try:
        event = read_event(line)
        # The world itself leaves errors beyond its bound to the caller.
        if event[0] == "drift" and abs(event[2]) > error_bound:
            raise Malformed(index)
        world.act(event)
    except CacheError:
        raise Malformed(index) from None
