"""Points 90 and 91, and point 2 for exploring."""

import unittest

from leasehall.checker import accepts
from leasehall.errors import Malformed
from leasehall.explorer import outcomes
from leasehall.notation import read_history, write_history
from leasehall.promises import is_right
from samples import seeded
from worlds import remembered, some_event, some_promise, some_questions, some_world, try_event

NONE = ()


def answers_of(world):
    answers = [
        (number, moment, tuple(results)) for number, _, _, _, (results, moment, _) in world.answers()
    ]
    return tuple(sorted(answers, key=lambda answer: answer[0]))


def ways(world, lines, extra, depth):
    """The worlds at the ends of all ways, each from the beginning, in their order."""
    yield world
    if depth > 0:
        held = range(len(world.letters()))
        for event in [(word, index) for word in ["deliver", "lose"] for index in held]:
            longer = extra + [event]
            after = read_history(lines)
            for each in longer:
                after.act(each)
            yield from ways(after, lines, longer, depth - 1)


def plain_outcomes(lines, depth):
    found = []
    for world in ways(read_history(lines), lines, [], depth):
        if answers_of(world) not in found:
            found.append(answers_of(world))
    return found


def some_history(chance, held):
    """The lines of a mixed world that holds at most so many letters at its end."""
    world = some_world(chance)
    for _ in range(chance.choice([5, 20, 60])):
        try_event(world, some_event(chance, world))
    for _ in range(held):
        host = chance.randrange(len(world.setup()[0]))
        try_event(world, ("read", host, "s", some_questions(chance), some_promise(chance)))
        if world.letters() and chance.random() < 0.5:
            world.act(("deliver", len(world.letters()) - 1))
    while len(world.letters()) > held:
        world.act(("lose", chance.randrange(len(world.letters()))))
    return write_history(world)


class Outcomes(unittest.TestCase):
    """Point 90, by hand."""

    def check(self, lines, expected):
        """The outcomes for the depths 0, 1, 2 .. are so many of those that are expected."""
        whole, counts = expected
        for depth, count in enumerate(counts):
            self.assertEqual(outcomes(lines, depth), whole[:count], depth)

    def test_a_new_world(self):
        self.check(["world 0 20 400"], ([NONE], [1, 1, 1, 1]))

    def test_no_letter_is_held(self):
        lines = ["world 0 20 400", "read 0 s get:a any", "deliver 0", "deliver 0"]
        self.check(lines, ([((0, 0, (None,)),)], [1, 1, 1, 1]))

    def test_no_answer(self):
        lines = ["world 0 20 400", "write 0 s a=1", "beat"]
        self.check(lines, ([NONE], [1, 1, 1, 1]))

    def test_one_read(self):
        lines = ["world 0 20 400", "read 0 s get:a any"]
        self.check(lines, ([NONE, ((0, 0, (None,)),)], [1, 1, 2, 2]))

    def test_the_last_letter(self):
        lines = ["world 0 20 400", "read 0 s get:a any", "deliver 0"]
        self.check(lines, ([NONE, ((0, 0, (None,)),)], [1, 2, 2, 2]))

    def test_ways_are_tried_to_their_end_before_the_next_ones(self):
        """The write may be committed before the fetch, which is tried first, or after it."""
        lines = ["world 0 20 400", "write 0 s a=1", "read 0 t get:a any"]
        before, after = ((0, 0, (None,)),), ((0, 1, (1,)),)
        self.assertEqual(outcomes(lines, 0), [NONE])
        self.assertEqual(outcomes(lines, 1), [NONE])
        self.assertEqual(outcomes(lines, 2), [NONE, before])
        self.assertEqual(outcomes(lines, 3), [NONE, after, before])

    def test_delivering_goes_by_the_index(self):
        lines = ["world 0 20 400 400", "read 0 s get:a any", "read 1 s get:a any", "deliver 0", "deliver 0"]
        first, second = (0, 0, (None,)), (1, 0, (None,))
        self.assertEqual(outcomes(lines, 1), [NONE, (first,), (second,)])
        self.assertEqual(outcomes(lines, 2), [NONE, (first,), (first, second), (second,)])
        lines[3:] = ["deliver 1", "deliver 0"]
        self.assertEqual(outcomes(lines, 1), [NONE, (second,), (first,)])
        self.assertEqual(outcomes(lines, 2), [NONE, (second,), (first, second), (first,)])

    def test_ways_that_lose_letters(self):
        """Where a beat is lost first, there is still one event left to deliver another letter."""
        lines = ["world 0 20 400", "beat", "read 0 s get:a any", "deliver 1"]
        self.assertEqual(len(read_history(lines).letters()), 2)
        self.assertEqual(outcomes(lines, 1), [NONE, ((0, 0, (None,)),)])
        self.assertEqual(outcomes(lines, 2), [NONE, ((0, 0, (None,)),)])

    def test_one_event_that_answers_several_reads(self):
        lines = ["world 0 20 400", "read 0 s get:a any", "read 0 t count:a:a any", "deliver 0"]
        both = ((0, 0, (None,)), (1, 0, (0,)))
        self.assertEqual(outcomes(lines, 1), [NONE, both])

    def test_answers_are_in_the_order_of_their_numbers(self):
        lines = ["world 0 20 400 400", "read 0 s get:a any", "read 1 t get:b any", "deliver 1", "deliver 1"]
        self.assertEqual(read_history(lines).answers()[0][0], 1)
        expected = [((1, 0, (None,)),), ((0, 0, (None,)), (1, 0, (None,)))]
        self.assertEqual(outcomes(lines, 2), expected)

    def test_results_are_tuples(self):
        lines = ["world 0 20 400", "write 0 s a=1,b=2", "deliver 0", "deliver 0", "lose 0"]
        lines += ["read 0 t list:a:z,least:a:z,get:c,sum:a:z any", "deliver 0"]
        answer = (0, 1, ((("a", 1), ("b", 2)), ("a", 1), None, 3))
        self.assertEqual(outcomes(lines, 1), [NONE, (answer,)])
        whole = read_history(lines)
        whole.act(("deliver", 0))
        self.assertEqual(whole.answers()[0][4][0], list(answer[2]))
        for outcome in outcomes(lines, 1)[1:]:
            self.assertEqual([type(part) for part in (outcome, outcome[0], outcome[0][2])], [tuple] * 3)

    def test_the_moment_and_the_results_count_not_the_evidence(self):
        """Two leases may be the evidence, and the outcome is the same."""
        lines = ["world 0 20 400", "read 0 s get:a newest", "nudge 0", "deliver 3", "deliver 1"]
        lines += ["deliver 0", "deliver 0"]
        found = outcomes(lines, 2)
        self.assertEqual(found, plain_outcomes(lines, 2))
        self.assertEqual(len(found), len(set(found)))

    def test_hosts_that_are_down_and_reads_that_were_given_up(self):
        lines = ["world 0 20 400", "read 0 s get:a any", "deliver 0"]
        self.assertEqual(outcomes(lines + ["fall 0"], 2), [NONE])
        self.assertEqual(outcomes(lines + ["give_up 0"], 2), [NONE])
        self.assertEqual(outcomes(lines + ["fall 0", "rise 0"], 2), [NONE])
        self.assertEqual(outcomes(["world 0 20 400", "read 0 s get:a any", "store_fall"], 3), [NONE])

    def test_a_way_that_raises_a_floor(self):
        """Once its group is told to be written, a session gets no older moment."""
        lines = ["world 0 20 400", "read 0 s get:a any", "write 0 s a=1", "deliver 0", "deliver 0", "lose 2"]
        kinds = [letter[0] for _, letter in read_history(lines).letters()]
        self.assertEqual(kinds, ["answer", "written"])
        self.assertEqual(outcomes(lines, 2), [NONE, ((0, 0, (None,)),)])
        self.assertEqual(outcomes(lines + ["deliver 1"], 2), [NONE])


class Mixed(unittest.TestCase):
    def test_all_ways_of_mixed_histories(self):
        chance = seeded(90)
        several = 0
        for depth, held, count in [(0, 6, 10), (1, 6, 40), (2, 4, 25), (2, 6, 6), (3, 2, 12), (3, 3, 4)]:
            for _ in range(count):
                lines = some_history(chance, held)
                found = outcomes(lines, depth)
                self.assertEqual(found, plain_outcomes(lines, depth))
                several += len(found) > 1
        self.assertGreater(several, 20)

    def test_each_answer_is_right(self):
        """Point 91."""
        chance = seeded(91)
        tried = 0
        for _ in range(25):
            lines = some_history(chance, 4)
            found = outcomes(lines, 2)
            told = []
            for world in ways(read_history(lines), lines, [], 2):
                self.right(world)
                told.append(answers_of(world))
                tried += len(world.answers())
            self.assertTrue(all(outcome in told for outcome in found))
        self.assertGreater(tried, 500)

    def right(self, world):
        for ledger, time, floor, read, answer in remembered(world):
            self.assertTrue(is_right(ledger, time, floor, read, answer))
            if read[3][0] != "newest":
                self.assertTrue(accepts(ledger, [], time, floor, read, answer))


class Calls(unittest.TestCase):
    def test_malformed_as_read_history(self):
        for lines in [[], ["x"], ["world 0 1 5", "beat", "x"], ["world 0 1 5", "deliver 0"], ["beat"]]:
            with self.assertRaises(Malformed) as expected:
                read_history(lines)
            for depth in range(4):
                with self.assertRaises(Malformed) as caught:
                    outcomes(lines, depth)
                self.assertEqual(caught.exception.index, expected.exception.index)

    def test_nothing_is_modified_or_shared(self):
        lines = ["world 0 20 400", "read 0 s get:a any", "deliver 0"]
        found = outcomes(lines, 1)
        found.append("x")
        self.assertEqual(lines, ["world 0 20 400", "read 0 s get:a any", "deliver 0"])
        self.assertEqual(outcomes(lines, 1), [NONE, ((0, 0, (None,)),)])


if __name__ == "__main__":
    unittest.main()
