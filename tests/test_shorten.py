"""Points 96 and 97, and point 2 for shortening."""

import unittest

from leasehall.errors import CacheError, Malformed, NotFound
from leasehall.notation import read_history, write_history
from leasehall.shorten import shorten
from samples import seeded
from worlds import some_event, some_world, try_event

WORLD = "world 2 20 400 400"
READ = ["read 0 s get:a any", "deliver 0", "deliver 0"]


def answer_to(lines, number):
    """The answer to a read number, or None, also if the lines cannot be read."""
    try:
        world = read_history(lines)
    except CacheError:
        return None
    found = [answer for told, _, _, _, answer in world.answers() if told == number]
    return found[0] if found else None


def needless(lines, number):
    """The ascending indexes of the needless lines."""
    wanted = answer_to(lines, number)
    indexes = range(1, len(lines))
    return [index for index in indexes if answer_to(lines[:index] + lines[index + 1:], number) == wanted]


def plain_shorten(lines, number):
    while needless(lines, number):
        index = needless(lines, number)[-1]
        lines = lines[:index] + lines[index + 1:]
    return lines


class Shortening(unittest.TestCase):
    def check(self, lines, expected, number=0):
        lines = [WORLD] + lines
        self.assertEqual(shorten(lines, number), [WORLD] + expected)
        self.assertEqual(answer_to([WORLD] + expected, number), answer_to(lines, number))
        self.assertEqual(needless([WORLD] + expected, number), [])

    def test_nothing_is_needless(self):
        self.check(READ, READ)

    def test_nothing_is_needless_though_two_lines_together_are(self):
        """Without the write there is no letter to lose, and without the loss another one is delivered."""
        lines = ["write 1 t b=1", "lose 0"] + READ
        self.check(lines, lines)
        lines = READ[:1] + ["store_fall", "store_rise"] + READ[1:]
        self.check(lines, lines)

    def test_one_needless_line_at_each_place(self):
        for line in ["pass 3", "drift 0 2", "nudge 1", "read 1 t get:b any", "write 1 t b=1", "beat"]:
            for at in range(len(READ) + 1):
                lines = READ[:at] + [line] + READ[at:]
                if needless([WORLD] + lines, 0) == [at + 1]:
                    self.check(lines, READ)
        self.check(READ + ["pass 3"], READ)
        self.check(["pass 3"] + READ, READ)
        self.check(READ[:1] + ["drift 0 2"] + READ[1:], READ)

    def test_lines_that_become_needless_when_others_are_gone(self):
        lines = ["fall 1", "rise 1"] + READ
        self.assertEqual(needless([WORLD] + lines, 0), [2])
        self.check(lines, READ)
        lines = READ[:1] + ["fall 1", "rise 1", "fall 1"] + READ[1:]
        self.assertEqual(needless([WORLD] + lines, 0), [4])
        self.check(lines, READ)

    def test_a_chain_of_lines(self):
        lines = READ + ["write 1 t b=1", "deliver 0", "deliver 0", "fall 1", "rise 1", "nudge 1"]
        self.check(lines, READ)

    def test_the_last_needless_line_goes_first(self):
        """Either error will do for the second read, and the earlier one is kept."""
        begin, read = READ, "read 0 s get:a age 1"
        lines = begin + ["drift 0 -1", "drift 0 -2", read]
        self.assertEqual(needless([WORLD] + lines, 1), [4, 5])
        self.check(lines, begin + ["drift 0 -1", read], 1)
        lines = begin + ["drift 0 -2", "drift 0 -1", read]
        self.check(lines, begin + ["drift 0 -2", read], 1)

    def test_three_of_which_one_is_needed(self):
        begin, read = READ, "read 0 s get:a age 1"
        lines = begin + ["drift 0 -1", "drift 0 -2", "drift 0 -1", "nudge 1", read, "pass 2"]
        self.check(lines, begin + ["drift 0 -1", read], 1)

    def test_an_earlier_read_keeps_the_number(self):
        lines = ["read 1 t get:b any"] + READ[:1] + ["deliver 1", "deliver 1"]
        self.check(lines, lines, 1)
        self.assertEqual(shorten([WORLD] + lines + ["deliver 0", "deliver 0"], 1), [WORLD] + lines)

    def test_another_read_may_take_its_number(self):
        """Only the number and the answer count, not the read."""
        lines = READ + ["read 0 t get:b any", "deliver 0", "deliver 0"]
        self.check(lines, READ + ["read 0 t get:b any", "deliver 0", "deliver 0"], 1)
        lines = ["read 0 s get:a any", "read 0 s get:a any", "deliver 0", "deliver 0"]
        self.assertEqual(needless([WORLD] + lines, 0)[-1], 2)
        self.check(lines, READ, 0)

    def test_the_results_the_moment_and_the_evidence_count(self):
        write = ["write 1 t a=5", "deliver 0", "lose 0", "lose 0", "lose 0"]
        self.check(write + READ, write + READ)
        # A commit of another key makes another moment.
        write[0] = "write 1 t b=5"
        self.check(write + READ, write + READ)
        # The time is part of the evidence.
        aged = ["read 0 s get:a age 9", "deliver 0", "deliver 0"]
        self.check(["pass 3"] + aged, ["pass 3"] + aged)
        self.check(["pass 3"] + aged + ["pass 1"], ["pass 3"] + aged)

    def test_the_time_the_floor_and_the_commits_do_not_count(self):
        self.check(["pass 3"] + READ, READ)
        self.check(READ[:2] + ["pass 3"] + READ[2:], READ)
        lines = READ[:2] + ["write 1 t b=5", "deliver 1", "deliver 0"]
        self.assertEqual(read_history([WORLD] + lines).answers()[0][3], 1)
        self.check(lines, READ)

    def test_a_history_of_the_first_line_alone_has_no_answer(self):
        with self.assertRaises(NotFound):
            shorten([WORLD], 0)

    def test_the_first_line_is_kept(self):
        for first in ["world 9 50 400 400 400 400", "world 0 1 1"]:
            self.assertEqual(shorten([first] + READ + ["beat"], 0), [first] + READ)

    def test_a_read_of_the_newest_state(self):
        newest = ["read 0 s get:a newest", "deliver 0", "deliver 0", "deliver 0", "deliver 0"]
        # The write is committed behind the fetch and the lease, which its key does not touch.
        lines = newest[:1] + ["write 1 t b=1", "drift 1 1"] + newest[1:3] + ["deliver 0", "pass 2"] + newest[3:]
        self.check(lines, newest[:1] + ["write 1 t b=1"] + newest[1:3] + ["deliver 0"] + newest[3:])
        self.check(newest + ["write 1 t a=1", "deliver 0", "deliver 0", "pass 9"], newest)


class Mixed(unittest.TestCase):
    def some_history(self, chance):
        """At most 20 lines, of which some answer a read."""
        while True:
            world = some_world(chance)
            while len(world.history()) < chance.randint(8, 19):
                event = some_event(chance, world)
                if event[0] == "read" or world.letters():
                    try_event(world, event)
                else:
                    try_event(world, chance.choice([event, ("read", 0, "s", [("get", "a")], ("any",))]))
            if world.answers():
                return write_history(world), [answer[0] for answer in world.answers()]

    def test_shortened_histories(self):
        """Point 97, and the order in which the lines are removed."""
        chance = seeded(97)
        removed = 0
        for _ in range(60):
            lines, numbers = self.some_history(chance)
            self.assertLessEqual(len(lines), 20)
            for number in numbers:
                found = shorten(lines, number)
                self.assertEqual(answer_to(found, number), answer_to(lines, number))
                self.assertEqual(needless(found, number), [])
                self.assertEqual(found, plain_shorten(lines, number))
                self.assertEqual(found[0], lines[0])
                removed += len(lines) - len(found)
        self.assertGreater(removed, 200)


class Errors(unittest.TestCase):
    def test_reads_without_an_answer(self):
        lines = [WORLD] + READ + ["read 1 t get:b any", "read 0 t get:c any", "give_up 2", "read 1 s get:c any", "fall 1"]
        for number in [1, 2, 3]:
            with self.assertRaises(NotFound):
                shorten(lines, number)
        self.assertEqual(shorten(lines, 0), [WORLD] + READ)

    def test_reads_that_did_not_come(self):
        for number in [1, 2, -1, 999999, -999999]:
            with self.assertRaises(NotFound):
                shorten([WORLD] + READ, number)

    def test_malformed_as_read_history(self):
        for lines in [
            [], [""], ["beat"], [WORLD, "x"], [WORLD, "beat", "deliver 9", "x"], [WORLD] + READ + ["drift 0 3"],
            [WORLD] + READ + ["give_up 0"],
        ]:
            with self.assertRaises(Malformed) as expected:
                read_history(lines)
            for number in [0, 5]:
                with self.assertRaises(Malformed) as caught:
                    shorten(lines, number)
                self.assertEqual(caught.exception.index, expected.exception.index)

    def test_nothing_is_modified_or_shared(self):
        lines = [WORLD] + READ + ["beat"]
        shorten(lines, 0).clear()
        self.assertEqual(lines, [WORLD] + READ + ["beat"])
        short = [WORLD] + READ
        shorten(short, 0).append("x")
        self.assertEqual(short, [WORLD] + READ)


if __name__ == "__main__":
    unittest.main()
