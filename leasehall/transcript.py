"""Transcripts: lines that tell what happened at a store and which answers were given."""

from leasehall.leases import is_returned
from leasehall.lettertext import write_answer, write_parts
from leasehall.notation import read_history, write_promise, write_questions
from leasehall.world import World

# The forms of the parts behind the word of a line, for the lines that need no read.
FORMS = {
    "time": ("integer",),
    "commit": ("integer", "integer", "group"),
    "lease": ("integer", "integer", "integer", "cover", "integer", "integer", "integer"),
    "returned": ("integer",),
    "written": ("name", "integer"),
}


def write_transcript(lines):
    """Return the transcript of the world of a written history."""
    past = read_history(lines)
    rooms, error_bound, lease_length = past.setup()
    # The same history makes the same world again, this time step by step.
    world = World(rooms, error_bound, lease_length)
    transcript = []
    read_count = 0
    for event in past.history():
        before = _seen(world)
        told = world.act(event)
        transcript.extend(_changes(before, _seen(world)))
        if event[0] == "read":
            transcript.append(_read_line(read_count, event))
            read_count += 1
        transcript.extend([_told_line(each) for each in told])
    return transcript


def _seen(world):
    """Return the tuple (time, ledger, leases) of a world."""
    store = world.store()
    return (world.time(), store.ledger(), store.leases())


def _changes(before, after):
    """Return the lines for what changed from one (time, ledger, leases) to the next."""
    old_time, old_ledger, old_leases = before
    time, ledger, leases = after
    lines = []
    if time != old_time:
        lines.append(_line("time", (time,)))
    for number, lease in enumerate(old_leases):
        if is_returned(leases[number]) and not is_returned(lease):
            lines.append(_line("returned", (number,)))
    for number, (then, group) in enumerate(ledger, start=1):
        if number > len(old_ledger):
            lines.append(_line("commit", (number, then, group)))
    for number, lease in enumerate(leases):
        if number >= len(old_leases):
            lines.append(_lease_line(number, lease))
    return lines


def _line(word, values):
    return word + " " + write_parts(FORMS[word], values)


def _lease_line(number, lease):
    host, incarnation, _, cover, until, moment, time, _ = lease
    return _line("lease", (number, host, incarnation, cover, until, moment, time))


def _read_line(number, event):
    _, _, session, questions, promise = event
    asked = write_questions(questions) + " " + write_promise(promise)
    return f"read {number} {session} {asked}"


def _told_line(told):
    """Return the line for an event that a host told."""
    if told[0] == "written":
        _, session, _, moment = told
        return _line("written", (session, moment))
    _, read, answer = told
    number, _, questions, _ = read
    return f"answer {number} " + write_answer(answer, questions)
