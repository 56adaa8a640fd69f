"""Points 110 to 116, and point 2 for relays."""

import copy
import unittest

from host_letters import (
    answer, beat, denied, fetch, give_back, host_state, lease, leased, missing, note, put,
    recall, written,
)
from leasehall.host import Host
from leasehall.relay import Relay

A = ("a", "a")
B = ("b", "b")
AB = ("a", "b")
NOTHING = ([], [])


def relay_with(entries=(), leases=(), below=3, room=400, error_bound=0, index=0):
    """A relay with entries (cover, moment, records) and leases (lease, cover, until, moment)."""
    relay = Relay(index, below, room, error_bound)
    for cover, moment, records in entries:
        number = relay.host().open_fetch(cover)[3]
        relay.take_down(answer(number, records, moment, moment + 100, cover, index), 0)
    for number, cover, until, moment in leases:
        add_lease(relay, number, cover, until, moment, index)
    return relay


def add_lease(relay, number, cover, until, moment, index=0, reading=0):
    request = relay.host().open_lease(cover)[3]
    return relay.take_down(
        leased(request, number, until, moment, moment + 100, cover, index), reading
    )


def low_fetch(host, number, question, incarnation=0):
    return ("fetch", host, incarnation, number, question)


def low_answer(host, number, question, result, moment, time, incarnation=0):
    return ("answer", host, incarnation, number, question, result, moment, time)


def low_lease(host, number, cover, incarnation=0):
    return ("lease", host, incarnation, number, cover)


def low_leased(host, number, lease_number, cover, until, moment, incarnation=0):
    return ("leased", host, incarnation, number, lease_number, cover, until, moment, moment + 100)


def low_recall(host, number, incarnation=0):
    return ("recall", host, incarnation, number)


def low_return(host, number, incarnation=0):
    return ("return", host, incarnation, number)


def low_missing(host, first, incarnation=0):
    return ("missing", host, incarnation, first)


def low_note(host, c, time, group):
    return ("note", host, c, time, group)


def state(relay):
    return copy.deepcopy((host_state(relay.host()), relay.holders()))


class Beginning(unittest.TestCase):
    """Point 110."""

    def test_a_new_relay(self):
        relay = Relay(2, 3, 5, 1)
        self.assertIsInstance(relay.host(), Host)
        self.assertEqual(host_state(relay.host()), (0, 0, [], [], {}, {}, {}))
        self.assertEqual(relay.holders(), {})
        self.assertEqual(relay.beat(), NOTHING)
        self.assertEqual(relay.nudge(0), NOTHING)

    def test_its_letters_to_the_store_are_those_of_its_host(self):
        relay = Relay(2, 3, 5, 1)
        up, down = relay.take_up(low_fetch(1, 7, ("get", "a")), 0)
        self.assertEqual((up, down), ([fetch(0, A, 2)], []))
        relay.fall()
        up, down = relay.take_up(low_lease(0, 7, AB), 0)
        self.assertEqual((up, down), ([lease(0, AB, 2, 1)], []))

    def test_the_host_has_the_room_of_the_relay(self):
        relay = relay_with([(A, 3, {"a": 1})], room=1)
        self.assertEqual(relay.host().entries(), [])
        relay = relay_with([(A, 3, {"a": 1})], room=2)
        self.assertEqual(len(relay.host().entries()), 1)

    def test_host_is_the_same_object(self):
        relay = Relay(0, 1, 5, 0)
        self.assertIs(relay.host(), relay.host())


class NotesDown(unittest.TestCase):
    """Point 111."""

    def test_a_note_that_moves_the_mark(self):
        relay = Relay(0, 3, 400, 0)
        group = put("a", 1)
        down = [low_note(host, 1, 9, group) for host in range(3)]
        self.assertEqual(relay.take_down(note(1, 9, group), 0), ([], down))

    def test_an_early_note_is_sent_when_the_mark_grows(self):
        relay = Relay(0, 2, 400, 0)
        groups = {c: put("a", c) for c in range(1, 6)}
        for c in [3, 2, 5]:
            self.assertEqual(relay.take_down(note(c, c + 10, groups[c]), 0), NOTHING)
        down = [low_note(host, c, c + 10, groups[c]) for c in [1, 2, 3] for host in range(2)]
        self.assertEqual(relay.take_down(note(1, 11, groups[1]), 0), ([], down))
        down = [low_note(host, c, c + 10, groups[c]) for c in [4, 5] for host in range(2)]
        self.assertEqual(relay.take_down(note(4, 14, groups[4]), 0), ([], down))

    def test_a_note_up_to_the_mark_sends_nothing(self):
        relay = Relay(0, 2, 400, 0)
        relay.take_down(note(1, 9, put("a", 1)), 0)
        self.assertEqual(relay.take_down(note(1, 9, put("a", 1)), 0), NOTHING)
        self.assertEqual(relay.take_down(note(0, 9, put("a", 1)), 0), NOTHING)

    def test_a_beat_that_lets_the_mark_jump(self):
        relay = Relay(0, 2, 400, 0)
        for c in [2, 3, 5, 7]:
            relay.take_down(note(c, c + 10, put("a", c)), 0)
        # Of the commits 1 to 5 it keeps the notes of 2, 3 and 5.
        down = [low_note(host, c, c + 10, put("a", c)) for c in [2, 3, 5] for host in range(2)]
        self.assertEqual(relay.take_down(beat(20, 4), 0), ([], down))
        self.assertEqual(relay.host().mark(), 5)

    def test_an_answer_that_lets_the_mark_jump(self):
        relay = Relay(0, 2, 400, 0)
        relay.host().open_fetch(A)
        for c in [2, 4]:
            relay.take_down(note(c, c + 10, put("a", c)), 0)
        down = [low_note(host, c, c + 10, put("a", c)) for c in [2, 4] for host in range(2)]
        self.assertEqual(relay.take_down(answer(0, {}, 3, 20, A), 0), ([], down))
        self.assertEqual(relay.host().mark(), 4)

    def test_a_beat_with_entries_asks_for_what_is_missing(self):
        relay = relay_with([(A, 3, {})])
        self.assertEqual(relay.take_down(beat(20, 5), 0), ([missing(4)], []))

    def test_notes_come_before_answers(self):
        relay = Relay(0, 1, 400, 0)
        relay.take_up(low_fetch(0, 4, ("get", "a")), 0)
        relay.take_down(note(2, 12, put("a", 2)), 0)
        down = [low_note(0, 2, 12, put("a", 2)), low_answer(0, 4, ("get", "a"), 2, 2, 12)]
        self.assertEqual(relay.take_down(answer(0, {}, 1, 11, A), 0), ([], down))

    def test_letters_of_another_incarnation(self):
        relay = relay_with([(A, 3, {"a": 1})], [(4, A, 30, 3)])
        relay.take_up(low_lease(0, 1, A), 0)
        relay.fall()
        relay.take_up(low_fetch(0, 4, ("get", "a")), 0)
        relay.take_up(low_lease(0, 5, A), 0)
        before = state(relay)
        for incarnation in [0, 2, -1]:
            for letter in [
                answer(0, {"a": 1}, 9, 9, A, 0, incarnation), leased(1, 3, 50, 9, 9, A, 0, incarnation),
                denied(1, 0, incarnation), recall(4, 0, incarnation), written(2, 9, 9, 0, incarnation),
            ]:
                self.assertEqual(relay.take_down(letter, 0), NOTHING)
                self.assertEqual(state(relay), before)
        self.assertEqual(relay.take_down(recall(4, 0, 1), 0), ([give_back(4, 0, 1)], []))

    def test_letters_of_another_incarnation_serve_nothing(self):
        relay = relay_with([], [(4, A, 30, 3)], error_bound=2)
        self.assertEqual(relay.take_up(low_lease(0, 1, A), 40)[1], [])
        # At an earlier reading the lease could be granted, but not by this letter.
        self.assertEqual(relay.take_down(denied(1, 0, 5), 10), NOTHING)
        self.assertEqual(len(relay.take_down(denied(77), 10)[1]), 1)

    def test_written_notes_a_statement(self):
        relay = Relay(0, 2, 400, 0)
        self.assertEqual(relay.take_down(written(0, 3, 8, 0, 0), 0), NOTHING)
        self.assertEqual(relay.beat(), ([], [beat(8, 3, 0), beat(8, 3, 1)]))


class Fetches(unittest.TestCase):
    """Point 112."""

    def test_an_entry_answers_at_once(self):
        relay = relay_with([(AB, 3, {"a": 5, "b": 7})])
        for question, result in [
            (("get", "a"), 5), (("get", "aa"), None), (("sum", "a", "b"), 12), (("count", "a", "b"), 2),
            (("list", "a", "b"), (("a", 5), ("b", 7))), (("least", "b", "b"), ("b", 7)),
            (("least", "c", "b"), None),
        ]:
            down = [low_answer(2, 9, question, result, 3, 103)]
            self.assertEqual(relay.take_up(low_fetch(2, 9, question), 0), ([], down))
        self.assertEqual(relay.host().requests(), {})

    def test_the_incarnation_of_the_host_below(self):
        relay = relay_with([(AB, 3, {"a": 5})])
        down = [low_answer(1, 9, ("get", "a"), 5, 3, 103, 6)]
        self.assertEqual(relay.take_up(low_fetch(1, 9, ("get", "a"), 6), 0), ([], down))

    def test_without_an_entry_it_waits(self):
        relay = Relay(0, 3, 400, 0)
        question = ("list", "a", "b")
        self.assertEqual(relay.take_up(low_fetch(1, 4, question), 0), ([fetch(0, AB)], []))
        down = [low_answer(1, 4, question, (("a", 5),), 3, 20)]
        self.assertEqual(relay.take_down(answer(0, {"a": 5}, 3, 20, AB), 0), ([], down))
        self.assertEqual(relay.take_down(beat(21, 3), 0), NOTHING)

    def test_requests_that_are_not_needed(self):
        relay = relay_with([(A, 3, {})])
        self.assertEqual(relay.take_up(low_fetch(0, 0, ("sum", "b", "d")), 0)[0], [fetch(1, ("b", "d"))])
        self.assertEqual(relay.take_up(low_fetch(1, 0, ("get", "c")), 0), NOTHING)
        self.assertEqual(relay.take_up(low_fetch(1, 1, ("sum", "b", "d")), 0), NOTHING)
        self.assertEqual(relay.take_up(low_fetch(1, 2, ("sum", "b", "e")), 0)[0], [fetch(2, ("b", "e"))])
        self.assertEqual(relay.take_up(low_fetch(1, 3, ("get", "x")), 0)[0], [fetch(3, ("x", "x"))])

    def test_an_open_lease_is_no_fetch(self):
        relay = Relay(0, 3, 400, 0)
        relay.take_up(low_lease(0, 0, A), 0)
        self.assertEqual(relay.take_up(low_fetch(0, 1, ("get", "a")), 0), ([fetch(1, A)], []))

    def test_equal_letters_while_one_waits(self):
        relay = Relay(0, 3, 400, 0)
        letter = low_fetch(1, 4, ("get", "a"))
        for up in [[fetch(0, A)], [], []]:
            self.assertEqual(relay.take_up(letter, 0), (up, []))
        relay.take_up(low_fetch(1, 5, ("get", "a")), 0)
        relay.take_up(low_fetch(2, 4, ("get", "a")), 0)
        relay.take_up(low_fetch(1, 4, ("get", "a"), 1), 0)
        down = relay.take_down(answer(0, {"a": 5}, 3, 20, A), 0)[1]
        self.assertEqual([sent[:4] for sent in down], [
            ("answer", 1, 0, 4), ("answer", 1, 0, 5), ("answer", 2, 0, 4), ("answer", 1, 1, 4),
        ])

    def test_equal_letters_after_one_was_served(self):
        relay = relay_with([(A, 3, {"a": 5})])
        letter = low_fetch(1, 4, ("get", "a"))
        for _ in range(3):
            down = [low_answer(1, 4, ("get", "a"), 5, 3, 103)]
            self.assertEqual(relay.take_up(letter, 0), ([], down))

    def test_the_greatest_moment(self):
        relay = relay_with([(("a", "c"), 3, {"a": 3}), (AB, 7, {"a": 7}), (("a", "d"), 5, {"a": 5})])
        self.assertEqual([entry[1] for entry in relay.host().entries()], [7, 5])
        down = relay.take_up(low_fetch(0, 0, ("get", "a")), 0)[1]
        self.assertEqual(down, [low_answer(0, 0, ("get", "a"), 7, 7, 107)])
        down = relay.take_up(low_fetch(0, 1, ("get", "d")), 0)[1]
        self.assertEqual(down, [low_answer(0, 1, ("get", "d"), None, 5, 105)])

    def test_the_greatest_stamp_among_equal_moments(self):
        # The records of one moment are the same in truth; here they tell the entries apart.
        relay = relay_with([(AB, 3, {"a": 1}), (("a", "c"), 3, {"a": 2}), (AB, 3, {"a": 3})])
        self.assertEqual([entry[3] for entry in relay.host().entries()], [1, 2])
        self.assertEqual(relay.take_up(low_fetch(0, 0, ("get", "a")), 0)[1][0][5], 3)
        relay = relay_with([(AB, 3, {"a": 1}), (("aa", "c"), 3, {"b": 2})])
        self.assertEqual(relay.take_up(low_fetch(0, 0, ("get", "b")), 0)[1][0][5], 2)

    def test_the_stamp_stays(self):
        relay = relay_with([(A, 3, {}), (B, 3, {})])
        before = host_state(relay.host())
        for key in "ab":
            relay.take_up(low_fetch(0, 0, ("get", key)), 0)
        self.assertEqual(host_state(relay.host()), before)

    def test_the_time_is_the_one_in_the_statements(self):
        relay = relay_with([(A, 3, {"a": 5})])
        relay.take_down(beat(200, 3), 0)
        relay.take_down(beat(150, 3), 0)
        down = relay.take_up(low_fetch(0, 0, ("get", "a")), 0)[1]
        self.assertEqual(down, [low_answer(0, 0, ("get", "a"), 5, 3, 200)])

    def test_a_moment_without_a_statement(self):
        relay = Relay(0, 3, 400, 0)
        host = relay.host()
        told = host.statements
        number = host.open_fetch(A)[3]
        host.statements = lambda: {2: 50, 4: 60}
        relay.take_down(answer(number, {"a": 5}, 3, 20, A), 0)
        # It cannot be answered, and yet no request is needed, as an entry answers the question.
        self.assertEqual(relay.take_up(low_fetch(0, 0, ("get", "a")), 0), NOTHING)
        host.statements = told
        down = [low_answer(0, 0, ("get", "a"), 5, 3, 20)]
        self.assertEqual(relay.take_down(denied(9), 0), ([], down))

    def test_a_greater_moment_without_a_statement(self):
        relay = relay_with([(AB, 3, {"a": 3}), (A, 5, {"a": 5})])
        relay.host().statements = lambda: {3: 50}
        down = relay.take_up(low_fetch(0, 0, ("get", "a")), 0)[1]
        self.assertEqual(down, [low_answer(0, 0, ("get", "a"), 3, 3, 50)])

    def test_an_entry_that_has_no_room(self):
        relay = Relay(0, 3, 1, 0)
        relay.take_up(low_fetch(0, 0, ("get", "a")), 0)
        self.assertEqual(relay.take_down(answer(0, {"a": 1}, 1, 9, A), 0), NOTHING)
        self.assertEqual(relay.take_up(low_fetch(0, 0, ("get", "a")), 0), ([fetch(1, A)], []))

    def test_letters_of_the_store_ask_for_nothing(self):
        relay = Relay(0, 3, 400, 0)
        relay.take_up(low_lease(0, 0, A), 0)
        self.assertEqual(relay.take_down(denied(0), 0), NOTHING)
        self.assertEqual(relay.host().requests(), {})
        # Any letter from below asks again for all that waits.
        self.assertEqual(relay.take_up(low_missing(0, 0), 0), ([lease(1, A)], []))

    def test_the_order_of_the_requests(self):
        relay = Relay(0, 3, 400, 0)
        for letter in [
            low_fetch(0, 0, ("get", "b")), low_lease(1, 0, B), low_fetch(2, 0, ("get", "a")), low_lease(1, 1, A),
        ]:
            relay.take_up(letter, 0)
        up, down = relay.nudge(0)
        self.assertEqual(up, [fetch(4, B), lease(5, B), fetch(6, A), lease(7, A)])
        self.assertEqual(down, [])


class Leases(unittest.TestCase):
    """Point 113."""

    def test_a_lease_is_granted_at_once(self):
        relay = relay_with([], [(4, AB, 30, 3)])
        down = [low_leased(1, 9, 4, AB, 30, 3)]
        self.assertEqual(relay.take_up(low_lease(1, 9, A), 0), ([], down))
        self.assertEqual(relay.holders(), {4: [(1, 0)]})

    def test_the_time_of_the_statement(self):
        relay = relay_with([], [(4, AB, 30, 3)])
        relay.take_down(beat(150, 3), 0)
        down = [("leased", 1, 0, 9, 4, AB, 30, 3, 150)]
        self.assertEqual(relay.take_up(low_lease(1, 9, A), 0), ([], down))

    def test_without_a_lease_it_waits(self):
        relay = Relay(0, 3, 400, 0)
        self.assertEqual(relay.take_up(low_lease(1, 9, A, 2), 0), ([lease(0, A)], []))
        self.assertEqual(relay.holders(), {})
        down = [("leased", 1, 2, 9, 4, A, 30, 3, 10)]
        self.assertEqual(relay.take_down(leased(0, 4, 30, 3, 10, A), 0), ([], down))
        self.assertEqual(relay.holders(), {4: [(1, 2)]})

    def test_requests_that_are_not_needed(self):
        relay = Relay(0, 3, 400, 0)
        self.assertEqual(relay.take_up(low_lease(0, 0, AB), 0)[0], [lease(0, AB)])
        self.assertEqual(relay.take_up(low_lease(1, 0, A), 0), NOTHING)
        self.assertEqual(relay.take_up(low_lease(1, 1, AB), 0), NOTHING)
        self.assertEqual(relay.take_up(low_lease(1, 2, ("a", "c")), 0)[0], [lease(1, ("a", "c"))])
        self.assertEqual(relay.take_up(low_fetch(1, 3, ("sum", "a", "b")), 0)[0], [fetch(2, AB)])
        self.assertEqual(relay.take_up(low_lease(1, 4, ("c", "c")), 0), NOTHING)

    def test_an_open_fetch_is_no_lease(self):
        relay = Relay(0, 3, 400, 0)
        relay.take_up(low_fetch(0, 0, ("get", "a")), 0)
        self.assertEqual(relay.take_up(low_lease(0, 1, A), 0), ([lease(1, A)], []))

    def test_the_greatest_until_and_then_the_least_number(self):
        relay = relay_with([], [(9, A, 30, 3), (2, A, 20, 3), (7, A, 30, 3), (8, B, 50, 3)])
        self.assertEqual(relay.take_up(low_lease(0, 0, A), 0)[1], [low_leased(0, 0, 7, A, 30, 3)])
        self.assertEqual(relay.holders(), {7: [(0, 0)]})

    def test_a_cover_that_is_too_small(self):
        relay = relay_with([], [(4, ("b", "c"), 30, 3)])
        for cover in [("a", "b"), ("c", "d"), ("a", "d")]:
            self.assertEqual(relay.take_up(low_lease(0, 0, cover), 0)[1], [])
        self.assertEqual(len(relay.take_up(low_lease(0, 1, ("c", "c")), 0)[1]), 1)
        self.assertEqual(len(relay.take_up(low_lease(0, 2, ("c", "b")), 0)[1]), 1)

    def test_leases_that_have_ended_for_the_latest_possible_time(self):
        for error_bound in [0, 4]:
            for reading, granted in [(29, 1), (30, 0), (31, 0)]:
                relay = relay_with([], [(4, A, 30, 3)], error_bound=error_bound)
                up, down = relay.take_up(low_lease(0, 0, A), reading - error_bound)
                self.assertEqual((len(up), len(down)), (1 - granted, granted))

    def test_a_lease_that_has_ended_beside_one_that_has_not(self):
        relay = relay_with([], [(4, A, 30, 3), (6, A, 20, 3)])
        self.assertEqual(relay.take_up(low_lease(0, 0, A), 25)[1], [low_leased(0, 0, 4, A, 30, 3)])

    def test_a_holder_that_asks_twice(self):
        relay = relay_with([], [(4, A, 30, 3)])
        for number in [1, 1, 2]:
            down = relay.take_up(low_lease(0, number, A), 0)[1]
            self.assertEqual(down, [low_leased(0, number, 4, A, 30, 3)])
            self.assertEqual(relay.holders(), {4: [(0, 0)]})
        relay.take_up(low_lease(0, 1, A, 1), 0)
        relay.take_up(low_lease(2, 1, A), 0)
        relay.take_up(low_lease(0, 3, A), 0)
        self.assertEqual(relay.holders(), {4: [(0, 0), (0, 1), (2, 0)]})

    def test_one_lease_of_the_store_serves_several(self):
        relay = Relay(0, 3, 400, 0)
        for letter in [low_lease(0, 0, A), low_lease(2, 0, B), low_lease(1, 0, ("a", "c"))]:
            relay.take_up(letter, 0)
        # The first lease that comes also serves the second letter, and not the third one.
        down = relay.take_down(leased(0, 7, 30, 3, 10, AB), 0)[1]
        self.assertEqual([sent[:5] for sent in down], [("leased", 0, 0, 0, 7), ("leased", 2, 0, 0, 7)])
        self.assertEqual(relay.holders(), {7: [(0, 0), (2, 0)]})

    def test_served_in_the_order_in_which_they_came(self):
        relay = Relay(0, 3, 400, 0)
        letters = [
            low_lease(0, 0, A), low_fetch(1, 0, ("get", "a")), low_lease(2, 0, A), low_fetch(0, 1, ("get", "a")),
        ]
        for letter in letters:
            relay.take_up(letter, 0)
        relay.host().handle(leased(0, 7, 30, 3, 10, A), 0, {})
        down = relay.take_down(answer(1, {"a": 5}, 3, 10, A), 0)[1]
        self.assertEqual([sent[:4] for sent in down], [
            ("leased", 0, 0, 0), ("answer", 1, 0, 0), ("leased", 2, 0, 0), ("answer", 0, 0, 1),
        ])

    def test_equal_leases_while_one_waits(self):
        relay = Relay(0, 3, 400, 0)
        for up in [[lease(0, A)], [], []]:
            self.assertEqual(relay.take_up(low_lease(1, 4, A), 0), (up, []))
        self.assertEqual(len(relay.take_down(leased(0, 7, 30, 3, 10, A), 0)[1]), 1)

    def test_denied_leases_are_asked_for_again(self):
        relay = Relay(0, 3, 400, 0)
        relay.take_up(low_lease(1, 4, A), 0)
        self.assertEqual(relay.take_down(denied(0), 0), NOTHING)
        self.assertEqual(relay.take_up(low_lease(1, 4, A), 0), ([lease(1, A)], []))


class Recalls(unittest.TestCase):
    """Point 114."""

    def held(self, *holders, number=4, until=30):
        relay = relay_with([], [(number, A, until, 3)])
        for host, incarnation in holders:
            relay.take_up(low_lease(host, 0, A, incarnation), 0)
        return relay

    def test_without_holders(self):
        relay = self.held()
        self.assertEqual(relay.take_down(recall(4), 0), ([give_back(4)], []))
        self.assertEqual(relay.host().leases(), {})
        self.assertEqual(relay.take_down(recall(4), 0), ([give_back(4)], []))

    def test_of_a_lease_that_the_relay_never_had(self):
        relay = self.held((1, 0))
        self.assertEqual(relay.take_down(recall(9), 0), ([give_back(9)], []))
        self.assertEqual(relay.holders(), {4: [(1, 0)]})

    def test_before_the_lease_came(self):
        relay = Relay(0, 3, 400, 0)
        relay.take_up(low_lease(1, 4, A), 0)
        self.assertEqual(relay.take_down(recall(7), 0), ([give_back(7)], []))
        self.assertEqual(relay.take_down(leased(0, 7, 30, 3, 10, A), 0), NOTHING)
        self.assertEqual((relay.host().leases(), relay.holders()), ({}, {}))

    def test_with_several_holders_in_their_order(self):
        relay = self.held((2, 0), (0, 3), (1, 1), (2, 1))
        down = [low_recall(2, 4), low_recall(0, 4, 3), low_recall(1, 4, 1), low_recall(2, 4, 1)]
        for _ in range(3):
            self.assertEqual(relay.take_down(recall(4), 0), ([], down))
        self.assertEqual(relay.host().leases(), {4: (A, 30, 3)})
        self.assertEqual(relay.holders(), {4: [(2, 0), (0, 3), (1, 1), (2, 1)]})

    def test_the_last_holder_gives_it_back(self):
        relay = self.held((2, 0), (0, 3))
        relay.take_down(recall(4), 0)
        self.assertEqual(relay.take_up(low_return(2, 4), 0), NOTHING)
        self.assertEqual(relay.holders(), {4: [(0, 3)]})
        self.assertEqual(relay.take_down(recall(4), 0), ([], [low_recall(0, 4, 3)]))
        self.assertEqual(relay.take_up(low_return(0, 4, 3), 0), ([give_back(4)], []))
        self.assertEqual((relay.holders(), relay.host().leases()), ({}, {}))
        self.assertEqual(relay.take_up(low_return(0, 4, 3), 0), NOTHING)
        self.assertEqual(relay.take_down(recall(4), 0), ([give_back(4)], []))

    def test_the_return_names_the_host_of_the_relay(self):
        relay = Relay(3, 2, 400, 0)
        relay.fall()
        relay.host().open_lease(A)
        relay.take_down(leased(0, 4, 30, 3, 10, A, 3, 1), 0)
        relay.take_up(low_lease(1, 0, A), 0)
        relay.take_down(recall(4, 3, 1), 0)
        self.assertEqual(relay.take_up(low_return(1, 4), 0), ([give_back(4, 3, 1)], []))

    def test_returns_that_have_no_effect(self):
        relay = self.held((2, 0), (0, 3))
        relay.take_down(recall(4), 0)
        for letter in [
            low_return(1, 4), low_return(2, 4, 1), low_return(0, 4), low_return(2, 5), low_return(2, -1),
        ]:
            self.assertEqual(relay.take_up(letter, 0), NOTHING)
            self.assertEqual(relay.holders(), {4: [(2, 0), (0, 3)]})

    def test_a_return_of_a_lease_that_was_not_recalled(self):
        relay = self.held((2, 0))
        self.assertEqual(relay.take_up(low_return(2, 4), 0), NOTHING)
        self.assertEqual(relay.holders(), {})
        self.assertEqual(relay.host().leases(), {4: (A, 30, 3)})
        self.assertEqual(relay.take_up(low_lease(1, 0, A), 0)[1], [low_leased(1, 0, 4, A, 30, 3)])
        self.assertEqual(relay.holders(), {4: [(1, 0)]})

    def test_a_recalled_lease_is_granted_to_no_one(self):
        relay = self.held((2, 0))
        relay.take_down(recall(4), 0)
        self.assertEqual(relay.take_up(low_lease(1, 0, A), 0), ([lease(1, A)], []))
        self.assertEqual(relay.take_up(low_lease(2, 0, A), 0), NOTHING)
        self.assertEqual(relay.holders(), {4: [(2, 0)]})

    def test_another_lease_is_granted_in_its_place(self):
        relay = self.held((2, 0), until=90)
        add_lease(relay, 6, AB, 50, 3)
        relay.take_down(recall(4), 0)
        self.assertEqual(relay.take_up(low_lease(1, 0, A), 0)[1], [low_leased(1, 0, 6, AB, 50, 3)])
        self.assertEqual(relay.holders(), {4: [(2, 0)], 6: [(1, 0)]})

    def test_a_return_is_followed_by_asking_for_what_waits(self):
        relay = self.held((2, 0))
        relay.take_down(recall(4), 0)
        relay.take_up(low_lease(1, 0, A), 0)
        relay.take_down(denied(1), 0)
        expected = ([give_back(4), lease(2, A)], [])
        self.assertEqual(relay.take_up(low_return(2, 4), 0), expected)

    def test_the_end_of_a_lease_does_not_free_it(self):
        relay = self.held((2, 0))
        self.assertEqual(relay.take_down(recall(4), 99), ([], [low_recall(2, 4)]))


class Nudges(unittest.TestCase):
    """Point 114 and the interface."""

    def test_open_requests_are_closed(self):
        relay = Relay(0, 3, 400, 0)
        relay.host().open_fetch(A)
        relay.host().open_lease(A)
        self.assertEqual(relay.nudge(0), NOTHING)
        self.assertEqual(relay.host().requests(), {})

    def test_what_waits_is_asked_for_again(self):
        relay = Relay(0, 3, 400, 0)
        relay.take_up(low_lease(0, 0, A), 0)
        relay.take_up(low_fetch(0, 1, ("get", "b")), 0)
        self.assertEqual(relay.nudge(0), ([lease(2, A), fetch(3, B)], []))
        self.assertEqual(relay.host().requests(), {2: lease(2, A), 3: fetch(3, B)})

    def test_recalls_by_ascending_numbers(self):
        relay = relay_with([], [(9, B, 30, 3), (4, A, 30, 3), (6, ("c", "c"), 30, 3)])
        for host, cover in [(2, B), (0, B), (1, A), (0, ("c", "c"))]:
            relay.take_up(low_lease(host, 0, cover), 0)
        relay.take_down(recall(9), 0)
        relay.take_down(recall(4), 0)
        down = [low_recall(1, 4), low_recall(2, 9), low_recall(0, 9)]
        self.assertEqual(relay.nudge(0), ([], down))
        relay.take_up(low_return(1, 4), 0)
        self.assertEqual(relay.nudge(0), ([], down[1:]))

    def test_recalls_come_before_what_is_served(self):
        relay = relay_with([], [(4, A, 30, 3)], error_bound=1)
        relay.take_up(low_lease(1, 0, A), 0)
        relay.take_down(recall(4), 0)
        add_lease(relay, 6, B, 30, 3)
        relay.take_up(low_lease(2, 0, B), 29)
        relay.take_up(low_lease(2, 1, A), 29)
        # A reading that fell back lets lease 6 serve again; lease 4 was recalled.
        expected = ([lease(4, A)], [low_recall(1, 4), low_leased(2, 0, 6, B, 30, 3)])
        self.assertEqual(relay.nudge(28), expected)


class MissingNotes(unittest.TestCase):
    """Point 115, "missing"."""

    def relay(self):
        relay = Relay(0, 3, 400, 0)
        for c in [1, 2, 3, 5, 6]:
            relay.take_down(note(c, c + 10, put("a", c)), 0)
        return relay

    def notes(self, numbers, host=1):
        return [low_note(host, c, c + 10, put("a", c)) for c in numbers]

    def test_up_to_the_mark(self):
        relay = self.relay()
        for first, numbers in [(1, [1, 2, 3]), (2, [2, 3]), (3, [3]), (4, []), (5, []), (99, [])]:
            self.assertEqual(relay.take_up(low_missing(1, first), 0), ([], self.notes(numbers)))

    def test_a_first_commit_below_1(self):
        relay = self.relay()
        for first in [0, -1, -99]:
            self.assertEqual(relay.take_up(low_missing(1, first), 0), NOTHING)

    def test_notes_beyond_the_mark_are_not_sent(self):
        relay = self.relay()
        relay.take_down(note(4, 14, put("a", 4)), 0)
        self.assertEqual(relay.take_up(low_missing(0, 2), 0)[1], self.notes([2, 3, 4, 5, 6], 0))

    def test_only_those_that_are_kept(self):
        relay = Relay(0, 3, 400, 0)
        for c in [2, 5]:
            relay.take_down(note(c, c + 10, put("a", c)), 0)
        relay.take_down(beat(30, 6), 0)
        self.assertEqual(relay.take_up(low_missing(1, 1), 0)[1], self.notes([2, 5]))
        relay.take_down(note(4, 14, put("a", 4)), 0)
        self.assertEqual(relay.take_up(low_missing(1, 1), 0)[1], self.notes([2, 4, 5]))

    def test_the_incarnation_does_not_matter(self):
        self.assertEqual(self.relay().take_up(low_missing(2, 3, 8), 0)[1], self.notes([3], 2))

    def test_no_notes(self):
        self.assertEqual(Relay(0, 3, 400, 0).take_up(low_missing(1, 1), 0), NOTHING)

    def test_notes_come_before_what_is_served(self):
        relay = self.relay()
        host = relay.host()
        relay.take_up(low_lease(1, 0, A), 0)
        host.handle(leased(0, 7, 30, 3, 13, A), 0, {})
        down = self.notes([3]) + [("leased", 1, 0, 0, 7, A, 30, 3, 13)]
        self.assertEqual(relay.take_up(low_missing(1, 3), 0), ([], down))


class OtherLetters(unittest.TestCase):
    """Point 115: other letters from below have no effect."""

    def test_a_write(self):
        relay = relay_with([(A, 3, {"a": 1})])
        before = state(relay)
        self.assertEqual(relay.take_up(("write", 1, 0, 0, put("a", 2)), 0), NOTHING)
        self.assertEqual(state(relay), before)
        self.assertEqual(relay.take_up(low_fetch(0, 0, ("get", "a")), 0)[1][0][5], 1)


class Beats(unittest.TestCase):
    """Point 115, beats."""

    def test_without_statements(self):
        self.assertEqual(Relay(0, 3, 400, 0).beat(), NOTHING)

    def test_the_greatest_moment_and_its_time(self):
        relay = Relay(0, 3, 400, 0)
        for time, moment in [(20, 4), (30, 2), (18, 4), (25, 3)]:
            relay.take_down(beat(time, moment), 0)
        self.assertEqual(relay.beat(), ([], [beat(20, 4, host) for host in range(3)]))
        relay.take_down(note(9, 21, put("a", 1)), 0)
        self.assertEqual(relay.beat(), ([], [beat(21, 9, host) for host in range(3)]))

    def test_one_host_and_four(self):
        for below in [1, 4]:
            relay = Relay(0, below, 400, 0)
            relay.take_down(beat(0, 0), 0)
            self.assertEqual(relay.beat(), ([], [beat(0, 0, host) for host in range(below)]))

    def test_a_beat_changes_nothing(self):
        relay = relay_with([(A, 3, {"a": 1})])
        before = state(relay)
        relay.beat()
        self.assertEqual(state(relay), before)


class Falls(unittest.TestCase):
    """Point 116."""

    def test_what_is_forgotten(self):
        relay = relay_with([(A, 3, {"a": 1})], [(4, A, 30, 3)])
        relay.take_down(note(4, 14, put("b", 4)), 0)
        relay.take_up(low_lease(1, 0, A), 0)
        relay.take_up(low_fetch(1, 1, ("get", "b")), 0)
        relay.take_down(recall(4), 0)
        relay.fall()
        self.assertEqual(host_state(relay.host()), (1, 0, [], [], {}, {}, {}))
        self.assertEqual(relay.holders(), {})
        self.assertEqual(relay.beat(), NOTHING)
        self.assertEqual(relay.nudge(0), NOTHING)
        relay.take_down(beat(20, 4), 0)
        self.assertEqual(relay.take_up(low_missing(1, 1), 0), NOTHING)

    def test_notes_from_before_are_not_sent(self):
        relay = Relay(0, 2, 400, 0)
        relay.take_down(note(2, 12, put("a", 2)), 0)
        relay.fall()
        down = [low_note(host, 1, 11, put("a", 1)) for host in range(2)]
        self.assertEqual(relay.take_down(note(1, 11, put("a", 1)), 0), ([], down))

    def test_returns_of_holders_that_are_forgotten(self):
        relay = relay_with([], [(4, A, 30, 3)])
        relay.take_up(low_lease(1, 0, A), 0)
        relay.take_down(recall(4), 0)
        relay.fall()
        self.assertEqual(relay.take_up(low_return(1, 4), 0), NOTHING)

    def test_a_letter_that_waited_may_come_again(self):
        relay = Relay(0, 2, 400, 0)
        letter = low_fetch(1, 1, ("get", "b"))
        relay.take_up(letter, 0)
        relay.fall()
        self.assertEqual(relay.take_up(letter, 0), ([fetch(0, B, 0, 1)], []))
        down = [low_answer(1, 1, ("get", "b"), None, 3, 9)]
        self.assertEqual(relay.take_down(answer(0, {}, 3, 9, B, 0, 1), 0), ([], down))

    def test_recalls_are_forgotten(self):
        relay = relay_with([], [(4, A, 30, 3)])
        relay.take_up(low_lease(1, 0, A), 0)
        relay.take_down(recall(4), 0)
        relay.fall()
        relay.host().open_lease(A)
        relay.take_down(leased(0, 5, 30, 3, 10, A, 0, 1), 0)
        self.assertEqual(relay.take_up(low_lease(1, 1, A), 0)[1], [("leased", 1, 0, 1, 5, A, 30, 3, 10)])


class Copies(unittest.TestCase):
    """Point 2."""

    def test_holders_are_new(self):
        relay = relay_with([], [(4, A, 30, 3)])
        relay.take_up(low_lease(1, 0, A), 0)
        relay.holders()[4].append((7, 7))
        relay.holders().clear()
        self.assertEqual(relay.holders(), {4: [(1, 0)]})
        told = relay.holders()
        relay.take_up(low_lease(2, 0, A), 0)
        self.assertEqual(told, {4: [(1, 0)]})

    def test_letters_are_lists_of_their_own(self):
        relay = Relay(0, 2, 400, 0)
        for call in [
            lambda: relay.take_up(low_fetch(0, 0, ("get", "a")), 0),
            lambda: relay.take_down(beat(0, 1), 0),
            lambda: relay.nudge(0),
            lambda: relay.beat(),
        ]:
            up, down = call()
            self.assertEqual((type(up), type(down)), (list, list))
            before = state(relay)
            up.append("x")
            down.append("y")
            self.assertEqual(state(relay), before)
        self.assertEqual(relay.nudge(0), ([fetch(2, A)], []))


if __name__ == "__main__":
    unittest.main()
