"""Points 86 and 87, and point 2 for transcripts."""

import unittest

from leasehall.errors import Malformed
from leasehall.notation import read_history, write_history
from leasehall.transcript import write_transcript
from leasehall.world import World
from samples import seeded
from worlds import some_event, some_world, try_event

# Each line of a history with the lines that it makes.
TOLD = [
    ("world 3 20 400 400", []),
    ("write 0 s a=1,b=none", []),
    ("pass 2", ["time 2"]),
    ("deliver 0", ["commit 1 2 a=1,b=none"]),
    ("double 0", []),
    ("deliver 0", ["written s 1"]),
    ("deliver 2", []),
    ("read 1 t get:a,sum:a:f age 5", ["read 0 t get:a,sum:a:f age 5"]),
    ("deliver 0", []),
    ("deliver 0", []),
    ("deliver 0", []),
    ("deliver 0", []),
    ("deliver 0", []),
    ("deliver 0", ["answer 0 1 1;1 at:2:1"]),
    ("fall 0", []),
    ("rise 0", []),
    ("drift 0 -3", []),
    ("read 0 s list:a:c,least:b:c newest", ["read 1 s list:a:c,least:b:c newest"]),
    ("deliver 1", ["lease 0 0 1 a:c 22 1 2"]),
    ("deliver 0", []),
    ("deliver 0", []),
    ("deliver 0", ["answer 1 1 [a=1];none lease:0;lease:0"]),
    ("beat", []),
    ("lose 0", []),
    ("deliver 0", []),
    ("write 1 t a=5", []),
    ("write 1 t c=none", []),
    ("deliver 0", []),
    ("double 1", []),
    ("deliver 1", []),
    ("deliver 0", []),
    ("deliver 1", ["returned 0", "commit 2 2 a=5", "commit 3 2 c=none"]),
    # The recall that was doubled makes a second return.
    ("deliver 0", []),
    ("deliver 7", []),
    ("read 1 t get:a any", ["read 2 t get:a any", "answer 2 1 1 -"]),
    ("deliver 4", ["written t 3"]),
    ("read 1 t get:a any", ["read 3 t get:a any"]),
    ("deliver 3", []),
    ("deliver 4", ["answer 3 3 5 -"]),
    ("nudge 1", []),
    ("lose 0", []),
    ("read 1 u count:x:z,get:a newest", ["read 4 u count:x:z,get:a newest"]),
    ("give_up 4", []),
    ("store_fall", []),
    ("pass 1", ["time 3"]),
    ("store_rise", []),
]


def transcript_of(*events, first="world 0 20 400 400"):
    return write_transcript([first] + list(events))


class Told(unittest.TestCase):
    """The lines that each event makes."""

    def test_a_history_with_every_kind_of_event(self):
        lines = [line for line, _ in TOLD]
        words = {line.split(" ")[0] for line in lines}
        self.assertEqual(len(words), 15)
        expected = []
        for count, (_, told) in enumerate(TOLD, start=1):
            expected.extend(told)
            self.assertEqual(write_transcript(lines[:count]), expected, lines[count - 1])

    def test_no_events(self):
        self.assertEqual(write_transcript(["world 0 1 5"]), [])

    def test_time(self):
        self.assertEqual(transcript_of("pass 1", "pass 20", "pass 3"), ["time 1", "time 21", "time 24"])

    def test_a_read_that_waits(self):
        self.assertEqual(transcript_of("read 0 abcdefgh get:a any"), ["read 0 abcdefgh get:a any"])

    def test_each_promise(self):
        events = ["read 0 s get:a any", "read 1 s get:b newest", "read 0 s get:c age 0", "read 0 s get:c age 200"]
        expected = [
            "read 0 s get:a any", "read 1 s get:b newest", "read 2 s get:c age 0", "read 3 s get:c age 200",
        ]
        self.assertEqual(transcript_of(*events), expected)

    def test_each_question(self):
        asked = "count:a:b,sum:zz:a,list:a:z,least:b:abcdefgh"
        self.assertEqual(transcript_of("read 0 s " + asked + " any"), ["read 0 s " + asked + " any"])

    def test_read_numbers_are_those_of_the_world(self):
        events = ["read 0 s get:a any", "fall 1", "read 0 s get:a any", "rise 1", "read 1 s get:a any"]
        self.assertEqual([line[:6] for line in transcript_of(*events)], ["read 0", "read 1", "read 2"])

    def test_several_events_told_by_one_letter(self):
        events = ["read 0 s get:a any", "read 0 t get:a age 9", "read 0 s get:a any", "deliver 0", "deliver 0"]
        told = transcript_of(*events)[3:]
        self.assertEqual(told, ["answer 0 0 none -", "answer 1 0 none at:0:0", "answer 2 0 none -"])

    def test_what_a_host_tells_is_in_its_order(self):
        events = [
            "write 0 s a=1", "deliver 0", "drift 0 3", "read 0 t get:b age 2", "deliver 2", "deliver 2",
            "drift 0 -3", "deliver 0",
        ]
        expected = ["commit 1 0 a=1", "read 0 t get:b age 2", "written s 1", "answer 0 1 none at:0:1"]
        self.assertEqual(transcript_of(*events, first="world 3 20 400"), expected)

    def test_the_end_of_a_lease_lets_several_writes_be_committed(self):
        events = [
            "read 0 s list:a:b newest", "deliver 1", "write 1 t a=1", "write 1 t b=2", "write 1 t c=3",
            "deliver 2", "deliver 2", "deliver 2", "pass 19", "pass 1",
        ]
        expected = [
            "read 0 s list:a:b newest", "lease 0 0 0 a:b 20 0 0", "time 19", "time 20", "commit 1 20 a=1",
            "commit 2 20 b=2", "commit 3 20 c=3",
        ]
        self.assertEqual(transcript_of(*events), expected)

    def test_a_lease_that_is_returned_after_its_end(self):
        events = [
            "read 0 s get:a newest", "deliver 1", "deliver 1", "write 1 t a=1", "deliver 1", "deliver 1",
            "pass 20", "deliver 1",
        ]
        expected = [
            "read 0 s get:a newest", "lease 0 0 0 a:a 20 0 0", "time 20", "commit 1 20 a=1", "returned 0",
        ]
        self.assertEqual(transcript_of(*events), expected)

    def test_letters_that_come_twice_make_no_second_line(self):
        events = [
            "read 0 s get:a newest", "write 1 t b=1", "double 1", "double 2", "deliver 1", "deliver 1",
            "deliver 1", "deliver 1",
        ]
        expected = ["read 0 s get:a newest", "lease 0 0 0 a:a 20 0 0", "commit 1 0 b=1"]
        self.assertEqual(transcript_of(*events), expected)

    def test_leases_have_their_host_their_incarnation_and_their_number(self):
        events = ["fall 1", "rise 1", "fall 1", "rise 1", "write 0 s c=1", "deliver 0", "pass 4"]
        events += ["read 1 s sum:a:b,get:d newest"]
        letters = read_history(["world 0 7 400 400"] + events).letters()
        leases = [index for index, (_, letter) in enumerate(letters) if letter[0] == "lease"]
        events += [f"deliver {index}" for index in reversed(leases)]
        expected = ["lease 0 1 2 d:d 11 1 4", "lease 1 1 2 a:b 11 1 4"]
        self.assertEqual(transcript_of(*events, first="world 0 7 400 400")[-2:], expected)

    def test_what_a_store_that_is_down_does_not_do(self):
        events = ["write 0 s a=1", "store_fall", "deliver 0", "beat", "pass 1", "store_rise", "beat"]
        self.assertEqual(transcript_of(*events), ["time 1"])


class Malforms(unittest.TestCase):
    def test_as_read_history(self):
        first = "world 3 20 5 400"
        for lines in [
            [], [""], ["world 3 20"], ["beat"], [first, ""], [first, "beat", "x", "beat"], [first, "nudge 2"],
            [first, "pass 1", "drift 0 4"], [first, "beat", "deliver 0", "deliver 1"], [first, "beat "],
            [first, "read 0 s get:a age 201"], ["time 0"], [first, "time 5"],
        ]:
            with self.assertRaises(Malformed) as expected:
                read_history(lines)
            with self.assertRaises(Malformed) as caught:
                write_transcript(lines)
            self.assertEqual(caught.exception.index, expected.exception.index)


def plain_lines(world, before, event, told):
    """The lines of an event, worked out again from what can be seen of the world."""
    time, ledger, leases = before
    store = world.store()
    lines = [f"time {world.time()}"] if world.time() > time else []
    for number, lease in enumerate(store.leases()):
        if number < len(leases) and lease[7] and not leases[number][7]:
            lines.append(f"returned {number}")
    for number, (then, group) in enumerate(store.ledger()):
        if number >= len(ledger):
            writes = ["{}={}".format(key, "none" if value is None else value) for key, value in group]
            lines.append(f"commit {number + 1} {then} " + ",".join(writes))
    for number, (host, incarnation, _, cover, until, moment, then, _) in enumerate(store.leases()):
        if number >= len(leases):
            lines.append(f"lease {number} {host} {incarnation} {cover[0]}:{cover[1]} {until} {moment} {then}")
    if event[0] == "read":
        reads = [each for each in world.history() if each[0] == "read"]
        _, _, session, questions, promise = event
        asked = ",".join(":".join(question) for question in questions)
        lines.append(f"read {len(reads) - 1} {session} {asked} " + " ".join(map(str, promise)))
    return lines + [plain_told(each) for each in told]


def plain_told(told):
    if told[0] == "written":
        return f"written {told[1]} {told[3]}"
    _, (number, _, _, _), (results, moment, evidence) = told
    statements = ";".join(":".join(map(str, statement)) for statement in evidence) or "-"
    return f"answer {number} {moment} " + ";".join(plain_result(result) for result in results) + " " + statements


def plain_result(result):
    if isinstance(result, tuple) and result and isinstance(result[0], str):
        return "({}={})".format(*result)
    if isinstance(result, tuple):
        return "[" + ",".join("{}={}".format(*record) for record in result) + "]"
    return "none" if result is None else str(result)


class Mixed(unittest.TestCase):
    def test_long_histories(self):
        chance = seeded(87)
        words = {}
        for _ in range(40):
            world = some_world(chance)
            expected = []
            for _ in range(150):
                event = some_event(chance, world)
                before = (world.time(), world.store().ledger(), world.store().leases())
                told = try_event(world, event)
                if told is not None:
                    expected.extend(plain_lines(world, before, event, told))
            found = write_transcript(write_history(world))
            self.assertEqual(found, expected)
            for line in found:
                words[line.split(" ")[0]] = words.get(line.split(" ")[0], 0) + 1
        self.assertEqual(sorted(words), ["answer", "commit", "lease", "read", "returned", "time", "written"])
        self.assertTrue(all(count > 10 for count in words.values()), words)

    def test_the_transcript_begins_with_that_of_a_shorter_history(self):
        world = World([400, 400], 1, 10)
        chance = seeded(88)
        for _ in range(60):
            try_event(world, some_event(chance, world))
        lines = write_history(world)
        whole = write_transcript(lines)
        for count in range(1, len(lines)):
            part = write_transcript(lines[:count])
            self.assertEqual(whole[:len(part)], part)


class Copies(unittest.TestCase):
    """Point 2."""

    def test_nothing_is_modified_or_shared(self):
        lines = [line for line, _ in TOLD]
        before = list(lines)
        found = write_transcript(lines)
        again = list(found)
        found.append("x")
        self.assertEqual(lines, before)
        self.assertEqual(write_transcript(lines), again)


if __name__ == "__main__":
    unittest.main()
