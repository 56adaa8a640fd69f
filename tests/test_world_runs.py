"""Points 51 and 75 to 77: long mixed histories, and calm rounds."""

import unittest
from unittest import mock

from leasehall.checker import accepts
from leasehall.errors import CacheError
from leasehall.host import Host
from leasehall.promises import is_right
from leasehall.store import Store
from leasehall.world import World
from samples import seeded
from worlds import check_host, check_told, remembered, some_event, some_world, try_event, world_state

ANY = ("any",)


class Mixed(unittest.TestCase):
    def step(self, world, event):
        """Let an event happen and check all that points 51, 74 and 75 say."""
        floors = world.floors()
        told = try_event(world, event)
        if told is None:
            return []
        after = check_told(self, told, floors, world.store(), world.time())
        self.assertEqual(world.floors(), after)
        rooms, error_bound, _ = world.setup()
        for host, room in enumerate(rooms):
            latest = world.reading(host) + error_bound
            check_host(self, world.host(host), world.store(), world.time(), latest)
            weights = [len(records) + 1 for _, _, records, _ in world.host(host).entries()]
            self.assertLessEqual(sum(weights), room)
        return told

    def test_each_answer_is_accepted_and_right(self):
        """Points 51 and 75, with letters that are lost, doubled and reordered, and falls."""
        chance = seeded(75)
        answered = {"any": 0, "age": 0, "newest": 0}
        falls = 0
        for _ in range(60):
            world = some_world(chance)
            for _ in range(180):
                for event in self.step(world, some_event(chance, world)):
                    if event[0] == "answered":
                        answered[event[1][3][0]] += 1
            falls += len([event for event in world.history() if event[0] == "fall"])
        self.assertTrue(all(count > 10 for count in answered.values()), answered)
        self.assertGreater(falls, 10)

    def test_what_becomes_of_each_read(self):
        """Point 75: answered once, waiting, given up, or lost by a fall."""
        chance = seeded(76)
        for _ in range(40):
            world = some_world(chance)
            homes, gone, reads = {}, [], 0
            for _ in range(200):
                event = some_event(chance, world)
                waiting = world.waiting()
                if try_event(world, event) is None:
                    continue
                if event[0] == "read":
                    homes[reads] = event[1]
                    reads += 1
                if event[0] == "give_up":
                    gone.append(event[1])
                if event[0] == "fall":
                    gone.extend(number for number in waiting if homes[number] == event[1])
            answered = [answer[0] for answer in world.answers()]
            fates = answered + gone + world.waiting()
            self.assertEqual(sorted(fates), list(range(reads)))

    def test_the_answers_that_a_world_remembers(self):
        chance = seeded(77)
        for _ in range(30):
            world = some_world(chance)
            for _ in range(150):
                try_event(world, some_event(chance, world))
            for ledger, time, floor, read, answer in remembered(world):
                self.assertTrue(is_right(ledger, time, floor, read, answer))

    def test_equal_histories_make_equal_worlds(self):
        """Point 76."""
        chance = seeded(78)
        for _ in range(30):
            world = some_world(chance)
            told = []
            for _ in range(150):
                told.extend(try_event(world, some_event(chance, world)) or [])
            again = World(*world.setup())
            told_again = []
            for event in world.history():
                told_again.extend(again.act(event))
            self.assertEqual(world_state(again), world_state(world))
            self.assertEqual(told_again, told)

    def test_the_checker_refuses_what_is_not_the_answer(self):
        world = World([400], 0, 20)
        world.act(("write", 0, "s", (("a", 1),)))
        world.act(("deliver", 0))
        world.act(("read", 0, "s", [("get", "a")], ("newest",)))
        while world.letters():
            world.act(("deliver", 0))
        number, time, floor, _, answer = world.answers()[0]
        read = (number, "s", [("get", "a")], ("newest",))
        ledger, leases = world.store().ledger(), world.store().leases()
        self.assertTrue(accepts(ledger, leases, time, floor, read, answer))
        self.assertFalse(accepts(ledger, leases, time, floor, read, ([2],) + answer[1:]))
        self.assertFalse(accepts(ledger, leases, time, floor, read, answer[:2] + ([],)))


class CalmRounds(unittest.TestCase):
    """Point 77: a calm round, event by event."""

    def test_nothing_to_do(self):
        world = World([5, 5, 5], 1, 10)
        self.assertEqual(world.calm_round(), ([], True))
        events = [("nudge", 0), ("nudge", 1), ("nudge", 2), ("pass", 1), ("beat",)]
        self.assertEqual(world.history(), events)
        self.assertEqual((world.time(), len(world.letters())), (1, 3))
        self.assertEqual(world.calm_round(), ([], True))
        self.assertEqual(world.history()[5:], events[:3] + [("deliver", 0)] * 3 + events[3:])

    def test_hosts_that_are_down_are_not_nudged(self):
        world = World([5, 5, 5], 1, 10)
        world.act(("fall", 1))
        world.calm_round()
        events = [("nudge", 0), ("nudge", 2), ("pass", 1), ("beat",)]
        self.assertEqual(world.history()[1:], events)

    def test_what_is_told(self):
        world = World([5, 5], 1, 10)
        read = (0, "s", [("get", "a")], ANY)
        world.act(("read", 0) + read[1:])
        world.act(("lose", 0))
        world.act(("write", 1, "t", (("a", 4),)))
        world.act(("lose", 0))
        told, is_full = world.calm_round()
        expected = [("answered", read, ([None], 0, [])), ("written", "t", 0, 1)]
        self.assertEqual((told, is_full), (expected, True))
        self.assertEqual(world.answers()[0][:2], (0, 0))
        self.assertEqual(world.floors(), {"t": 1})

    def test_the_beat_of_a_round_is_delivered_in_the_next_one(self):
        world = World([5], 0, 10)
        world.act(("read", 0, "s", [("get", "a")], ANY))
        self.assertEqual(len(world.calm_round()[0]), 1)
        # The answer was of the time 0, so the age 0 at the time 1 needs the beat.
        self.assertEqual(world.act(("read", 0, "s", [("get", "a")], ("age", 0))), [])
        self.assertEqual(world.letters()[0], (False, ("beat", 0, 1, 0)))
        told, is_full = world.calm_round()
        self.assertEqual([event[2] for event in told], [([None], 0, [("at", 1, 0)])])
        self.assertEqual((is_full, world.answers()[1][1]), (True, 1))

    def test_it_is_not_full_if_a_letter_was_lost_for_want_of_room(self):
        world = World([5], 0, 10)
        for number in range(3):
            world.act(("write", 0, "s", (("a", number),)))
        while len(world.letters()) < 400:
            world.act(("beat",))
        # Nudging sends the three writes again, for which there is no room.
        self.assertEqual(world.calm_round()[1], False)
        self.assertEqual(world.crowded_out() >= 3, True)
        self.assertEqual(world.calm_round()[1], True)
        self.assertEqual(world.store().moment(), 3)

    def test_letters_that_were_lost_before_do_not_count(self):
        world = World([5], 0, 10)
        while world.crowded_out() < 5:
            world.act(("beat",))
        self.assertEqual(world.calm_round()[1], True)

    def test_lost_while_delivering(self):
        world = World([5, 5], 0, 10)
        world.act(("write", 0, "s", (("a", 1),)))
        while len(world.letters()) < 400:
            world.act(("double", 0))
        # The first write sends three letters and the others one each.
        world.act(("lose", 399))
        self.assertEqual(world.calm_round()[1], False)
        self.assertEqual(world.crowded_out(), 2)

    def patched(self, replies):
        """A store that answers every letter, and hosts that reply a number of times."""
        left = [replies]

        def handle(host, letter, reading, floors):
            left[0] -= 1
            return ([("missing", 0, 0, 1)] if left[0] >= 0 else [], [])

        beat = ("beat", 0, 0, 0)
        return (
            mock.patch.object(Store, "handle", lambda store, letter, time: [beat]),
            mock.patch.object(Host, "handle", handle),
        )

    def round_with_deliveries(self, replies):
        world = World([5], 0, 10)
        world.act(("beat",))
        store, host = self.patched(replies)
        with store, host:
            told, is_full = world.calm_round()
        delivered = world.history().count(("deliver", 0))
        self.assertEqual(told, [])
        self.assertEqual(world.history()[-2:], [("pass", 1), ("beat",)])
        return (delivered, is_full, len(world.letters()))

    def test_at_most_2000_letters(self):
        # Each reply makes two deliveries more. No real world has so many.
        self.assertEqual(self.round_with_deliveries(3), (7, True, 1))
        self.assertEqual(self.round_with_deliveries(999), (1999, True, 1))
        self.assertEqual(self.round_with_deliveries(1000), (2000, False, 2))
        self.assertEqual(self.round_with_deliveries(5000), (2000, False, 2))

    def test_the_2000th_letter_may_be_the_last_one(self):
        world = World([5], 0, 10)
        world.act(("beat",))
        world.act(("beat",))
        store, host = self.patched(999)
        with store, host:
            is_full = world.calm_round()[1]
        self.assertEqual(world.history().count(("deliver", 0)), 2000)
        self.assertEqual(is_full, True)


def load(world):
    """Commits, pending writes, open writes and letters "write"."""
    store = world.store()
    count = store.moment() + len(store.pending())
    for host in range(len(world.setup()[0])):
        letters = world.host(host).requests().values()
        count += len([letter for letter in letters if letter[0] == "write"])
    return count + len([letter for _, letter in world.letters() if letter[0] == "write"])


class Progress(unittest.TestCase):
    """Point 77: after L + 6 full rounds no read waits and no write is pending."""

    def trouble(self, chance, world, error_bound):
        """A mixed history within the conditions of point 77."""
        for _ in range(chance.choice([20, 60, 150])):
            event = some_event(chance, world)
            if event[0] == "read":
                _, _, _, _, promise = event
                if len(world.waiting()) >= 4 or (promise + (999,))[1] < 2 * error_bound:
                    continue
            try_event(world, event)
        for host in range(len(world.setup()[0])):
            try_event(world, ("rise", host))
        try_event(world, ("store_rise",))

    def test_progress(self):
        chance = seeded(79)
        ended = {"reads": 0, "writes": 0, "worlds": 0}
        for _ in range(120):
            error_bound = chance.choice([0, 1, 2, 3, 9])
            length = chance.choice([2 * error_bound + 6, 2 * error_bound + 7, 30])
            world = World([400] * chance.randint(1, 4), error_bound, length)
            self.trouble(chance, world, error_bound)
            if load(world) > 200:
                continue
            ended["reads"] += len(world.waiting())
            ended["writes"] += len(world.store().pending())
            rounds = [world.calm_round()[1] for _ in range(length + 6)]
            if all(rounds):
                ended["worlds"] += 1
                self.assertEqual((world.waiting(), world.store().pending()), ([], []))
        self.assertTrue(all(count > 50 for count in ended.values()), ended)

    def test_the_newest_state_after_a_write_that_was_held(self):
        world = World([400, 400], 0, 6)
        world.act(("read", 0, "s", [("get", "a")], ("newest",)))
        world.act(("write", 1, "t", (("a", 3),)))
        world.act(("read", 1, "t", [("get", "a"), ("sum", "a", "c")], ("newest",)))
        for _ in range(12):
            self.assertEqual(world.calm_round()[1], True)
        self.assertEqual((world.waiting(), world.store().ledger()[0][1]), ([], (("a", 3),)))

    def test_errors_do_not_hide_behind_the_helper(self):
        world = World([5], 0, 10)
        self.assertIsNone(try_event(world, ("rise", 0)))
        with self.assertRaises(CacheError):
            world.act(("rise", 0))


if __name__ == "__main__":
    unittest.main()
