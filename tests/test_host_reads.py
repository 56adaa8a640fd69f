"""Points 45 and 46: which reads are answered, how, and what makes room."""

import unittest

from host_letters import (
    ALL, age_read, answer, any_read, beat, fetch, host_with, leased, newest_read, note, put, recall,
    told, written,
)
from leasehall.host import Host

A = ("a", "a")
B = ("b", "b")


def give_lease(host, number, until, moment, cover=ALL, time=0):
    request = host.open_lease(cover)[3]
    host.handle(leased(request, number, until, moment, time, cover), 0, {})


def stamps(host):
    return {entry[0]: entry[3] for entry in host.entries()}


class Moments(unittest.TestCase):
    """Which moment a read is answered at."""

    def test_any(self):
        host = host_with([(ALL, 3, {"a": 5, "b": 7})])
        read = any_read(4, "s", [("get", "a"), ("sum", "a", "b"), ("get", "x"), ("count", "b", "a")])
        letters, events = host.ask(read, 0, {})
        self.assertEqual(letters, [])
        self.assertEqual(events, [told(read, [5, 12, None, 0], 3, [])])
        self.assertEqual(host.waiting(), [])

    def test_all_kinds_of_questions(self):
        host = host_with([(ALL, 3, {"a": 5, "b": -7, "c": -7})])
        questions = [("list", "a", "b"), ("least", "a", "c"), ("count", "b", "z"), ("least", "x", "z")]
        read = any_read(0, "s", questions)
        results = [(("a", 5), ("b", -7)), ("b", -7), 2, None]
        self.assertEqual(host.ask(read, 0, {})[1], [told(read, results, 3, [])])

    def test_the_results_are_a_list(self):
        host = host_with([(ALL, 3, {"a": 5})])
        event = host.ask(any_read(), 0, {})[1][0]
        self.assertIs(type(event), tuple)
        self.assertIs(type(event[2]), tuple)
        self.assertIs(type(event[2][0]), list)
        self.assertIs(type(event[2][2]), list)

    def test_the_floor(self):
        for floor, answered in [(0, 1), (3, 1), (4, 0), (200, 0)]:
            host = host_with([(ALL, 3, {"a": 5})])
            self.assertEqual(len(host.ask(any_read(), 0, {"s": floor})[1]), answered)
        host = host_with([(ALL, 3, {"a": 5})])
        self.assertEqual(len(host.ask(any_read(), 0, {"t": 9})[1]), 1)

    def test_moment_0(self):
        host = host_with([(ALL, 0, {})])
        read = any_read()
        self.assertEqual(host.ask(read, 0, {})[1], [told(read, [None], 0, [])])

    def test_the_greatest_moment_is_taken(self):
        host = host_with([(("a", "c"), 5, {"a": 5}), (("a", "b"), 7, {"a": 7}), (A, 6, {"a": 6})])
        self.assertEqual([entry[1] for entry in host.entries()], [5, 7, 6])
        read = any_read()
        self.assertEqual(host.ask(read, 0, {})[1], [told(read, [7], 7, [])])

    def test_one_moment_for_all_questions(self):
        host = host_with([(("a", "b"), 3, {"a": 3, "b": 3}), (A, 5, {"a": 5}), (B, 6, {"b": 6})])
        read = any_read(0, "s", [("get", "a"), ("get", "b")])
        self.assertEqual(host.ask(read, 0, {})[1], [told(read, [3, 3], 3, [])])
        single = any_read(1, "s", [("get", "b")])
        self.assertEqual(host.ask(single, 0, {})[1], [told(single, [6], 6, [])])

    def test_different_entries_with_the_same_moment(self):
        host = host_with([(A, 5, {"a": 5}), (B, 5, {"b": 6})])
        read = any_read(0, "s", [("get", "b"), ("get", "a"), ("get", "b")])
        self.assertEqual(host.ask(read, 0, {})[1], [told(read, [6, 5, 6], 5, [])])

    def test_no_common_moment(self):
        host = host_with([(A, 5, {"a": 5}), (B, 6, {"b": 6})])
        read = any_read(0, "s", [("get", "a"), ("get", "b")])
        self.assertEqual(host.ask(read, 0, {})[1], [])
        self.assertEqual(host.waiting(), [read])

    def test_a_cover_that_is_too_small(self):
        host = host_with([(("b", "d"), 5, {})])
        for first, last in [("a", "b"), ("d", "e"), ("a", "e"), ("b", "da")]:
            read = any_read(0, "s", [("sum", first, last)])
            self.assertEqual(host.ask(read, 0, {})[1], [], read)
            host.give_up(0)
        read = any_read(0, "s", [("sum", "b", "d")])
        self.assertEqual(host.ask(read, 0, {})[1], [told(read, [0], 5, [])])

    def test_a_lesser_moment_is_taken_where_the_greater_one_does_not_serve(self):
        host = host_with([(("a", "b"), 3, {"a": 3}), (A, 5, {"a": 5}), (B, 5, {"b": 5})])
        self.assertEqual([entry[1] for entry in host.entries()], [3, 5, 5])
        read = any_read(0, "s", [("sum", "a", "b")])
        self.assertEqual(host.ask(read, 0, {})[1], [told(read, [3], 3, [])])
        read = any_read(1, "s", [("get", "a"), ("get", "b")])
        self.assertEqual(host.ask(read, 0, {})[1], [told(read, [5, 5], 5, [])])


class Ages(unittest.TestCase):
    """Point 45 for ("age", t)."""

    def host(self, statements, moment=5, error_bound=0):
        host = Host(0, 400, error_bound)
        number = host.open_fetch(ALL)[3]
        host.handle(answer(number, {"a": 1}, moment, -50), 0, {})
        for stated, time in statements:
            host.handle(written(999, stated, time), 0, {})
        return host

    def evidence(self, host, age, reading):
        events = host.ask(age_read(age), reading, {})[1]
        if not events:
            host.give_up(0)
            return None
        self.assertEqual(events[0][2][:2], ([1], 5))
        return events[0][2][2]

    def test_the_age_exactly_and_one_less(self):
        host = self.host([(5, 10)])
        self.assertEqual(self.evidence(host, 7, 17), [("at", 10, 5)])
        self.assertIsNone(self.evidence(host, 7, 18))
        self.assertIsNone(self.evidence(host, 6, 17))
        self.assertEqual(self.evidence(host, 0, 10), [("at", 10, 5)])

    def test_the_latest_possible_time_counts(self):
        host = self.host([(5, 10)], error_bound=3)
        self.assertEqual(self.evidence(host, 7, 14), [("at", 10, 5)])
        self.assertIsNone(self.evidence(host, 7, 15))

    def test_statements_of_lesser_moments_serve(self):
        host = self.host([(3, 10)])
        self.assertEqual(self.evidence(host, 2, 12), [("at", 10, 3)])

    def test_statements_of_greater_moments_do_not_serve(self):
        host = self.host([(6, 30)])
        self.assertIsNone(self.evidence(host, 2, 12))
        self.assertEqual(self.evidence(self.host([(5, 10), (6, 30)]), 2, 12), [("at", 10, 5)])

    def test_the_greatest_time_is_named(self):
        host = self.host([(5, 10), (4, 12), (3, 11)])
        self.assertEqual(self.evidence(host, 50, 12), [("at", 12, 4)])

    def test_the_greatest_moment_of_equal_times_is_named(self):
        host = self.host([(3, 12), (5, 12), (4, 12), (2, 11)])
        self.assertEqual(self.evidence(host, 50, 12), [("at", 12, 5)])
        host = self.host([(4, 12), (3, 12), (6, 12)])
        self.assertEqual(self.evidence(host, 50, 12), [("at", 12, 4)])

    def test_the_entry_needs_no_statement_of_its_own(self):
        host = self.host([(0, 12)])
        self.assertEqual(self.evidence(host, 0, 12), [("at", 12, 0)])

    def test_without_statements(self):
        self.assertIsNone(self.evidence(self.host([]), 40, 0))

    def test_age_200(self):
        host = self.host([(5, 10)])
        self.assertEqual(self.evidence(host, 200, 210), [("at", 10, 5)])
        self.assertIsNone(self.evidence(host, 200, 211))

    def test_a_lesser_moment_with_no_fitting_statement(self):
        host = host_with([(A, 3, {"a": 3}), (("a", "b"), 1, {"a": 1})], statements=[(3, 9)])
        read = age_read(0, 0, "s", [("get", "a")])
        self.assertEqual(host.ask(read, 9, {})[1], [told(read, [3], 3, [("at", 9, 3)])])
        read = age_read(0, 1, "s", [("get", "b")])
        self.assertEqual(host.ask(read, 9, {})[1], [])

    def test_a_beat_answers_a_waiting_read(self):
        host = self.host([(5, 10)])
        read = age_read(3)
        self.assertEqual(host.ask(read, 20, {})[1], [])
        self.assertEqual(host.handle(beat(16, 5), 20, {})[1], [])
        self.assertEqual(host.handle(beat(17, 5), 20, {})[1], [told(read, [1], 5, [("at", 17, 5)])])


class Newest(unittest.TestCase):
    """Point 45 for ("newest",)."""

    def evidence(self, host, reading, questions=None):
        events = host.ask(newest_read(0, "s", questions), reading, {})[1]
        if not events:
            host.give_up(0)
            return None
        return events[0][2][2]

    def test_a_lease_that_ends_at_the_latest_possible_time(self):
        for error_bound in [0, 4]:
            host = host_with([(ALL, 5, {"a": 1})], error_bound=error_bound)
            give_lease(host, 3, 20, 5)
            self.assertEqual(self.evidence(host, 19 - error_bound), [("lease", 3)])
            self.assertIsNone(self.evidence(host, 20 - error_bound))
            self.assertIsNone(self.evidence(host, 21 - error_bound))

    def test_the_moment_of_the_lease(self):
        for moment, expected in [(4, [("lease", 3)]), (5, [("lease", 3)]), (6, None)]:
            host = host_with([(ALL, 5, {"a": 1})])
            give_lease(host, 3, 20, moment)
            self.assertEqual(self.evidence(host, 7), expected)

    def test_the_cover_of_the_lease(self):
        host = host_with([(ALL, 5, {"a": 1})])
        give_lease(host, 3, 20, 5, ("b", "d"))
        for first, last, expected in [
            ("b", "d", [("lease", 3)]), ("c", "c", [("lease", 3)]), ("a", "d", None),
            ("b", "e", None), ("e", "f", None), ("d", "b", [("lease", 3)]),
        ]:
            self.assertEqual(self.evidence(host, 7, [("sum", first, last)]), expected)

    def test_the_least_number_that_fits(self):
        host = host_with([(ALL, 5, {"a": 1})])
        give_lease(host, 9, 30, 5)
        give_lease(host, 7, 25, 5)
        give_lease(host, 2, 20, 5, ("b", "c"))
        give_lease(host, 3, 10, 5)
        give_lease(host, 4, 30, 6)
        self.assertEqual(self.evidence(host, 9), [("lease", 3)])
        self.assertEqual(self.evidence(host, 10), [("lease", 7)])
        self.assertEqual(self.evidence(host, 25), [("lease", 9)])
        self.assertIsNone(self.evidence(host, 30))

    def test_one_lease_for_each_question(self):
        host = host_with([(ALL, 5, {"a": 1, "b": 2})])
        give_lease(host, 8, 30, 5, A)
        give_lease(host, 5, 30, 5, B)
        questions = [("get", "b"), ("get", "a"), ("get", "b")]
        self.assertEqual(
            self.evidence(host, 9, questions), [("lease", 5), ("lease", 8), ("lease", 5)]
        )
        self.assertIsNone(self.evidence(host, 9, questions[:2] + [("get", "c")]))

    def test_a_lease_that_was_recalled(self):
        host = host_with([(ALL, 5, {"a": 1})])
        give_lease(host, 3, 20, 5)
        host.handle(recall(3), 0, {})
        self.assertIsNone(self.evidence(host, 7))

    def test_a_lesser_moment_that_no_lease_serves(self):
        host = host_with([(("a", "b"), 5, {"a": 1}), (A, 7, {"a": 2})])
        give_lease(host, 3, 20, 6)
        self.assertIsNone(self.evidence(host, 7, [("get", "b")]))
        self.assertEqual(self.evidence(host, 7), [("lease", 3)])

    def test_waits_for_the_lease(self):
        host = host_with([(ALL, 5, {"a": 1})])
        read = newest_read()
        self.assertEqual(host.ask(read, 7, {})[1], [])
        events = host.handle(leased(1, 0, 20, 5, 6, A), 7, {})[1]
        self.assertEqual(events, [told(read, [1], 5, [("lease", 0)])])

    def test_waits_for_a_note_after_the_lease(self):
        host = host_with([(ALL, 5, {"a": 1})])
        read = newest_read()
        host.ask(read, 7, {})
        self.assertEqual(host.handle(leased(1, 0, 20, 6, 6, A), 7, {})[1], [])
        events = host.handle(note(6, 6, put("a", 9)), 7, {})[1]
        self.assertEqual(events, [told(read, [9], 6, [("lease", 0)])])


class Stamps(unittest.TestCase):
    """Which entry gives a result, and the stamps that it gets."""

    def test_the_entry_that_gave_the_result(self):
        host = host_with([(A, 5, {}), (B, 5, {})])
        host.ask(any_read(0, "s", [("get", "a")]), 0, {})
        self.assertEqual(stamps(host), {A: 2, B: 1})
        host.ask(any_read(1, "s", [("get", "b")]), 0, {})
        self.assertEqual(stamps(host), {A: 2, B: 3})

    def test_the_place_in_the_list_stays(self):
        host = host_with([(A, 5, {}), (B, 5, {})])
        host.ask(any_read(), 0, {})
        self.assertEqual([entry[0] for entry in host.entries()], [A, B])

    def test_several_questions_by_one_entry(self):
        host = host_with([(A, 5, {}), (("b", "c"), 5, {})])
        host.ask(any_read(0, "s", [("get", "b"), ("get", "a"), ("get", "c")]), 0, {})
        self.assertEqual(stamps(host), {A: 3, ("b", "c"): 4})
        host.ask(any_read(1, "s", [("get", "a"), ("get", "a")]), 0, {})
        self.assertEqual(stamps(host), {A: 6, ("b", "c"): 4})

    def test_the_greatest_stamp_is_used(self):
        host = host_with([(("a", "b"), 5, {}), (("b", "c"), 5, {})])
        host.ask(any_read(0, "s", [("get", "b")]), 0, {})
        self.assertEqual(stamps(host), {("a", "b"): 0, ("b", "c"): 2})
        host.ask(any_read(1, "s", [("get", "a"), ("get", "b")]), 0, {})
        self.assertEqual(stamps(host), {("a", "b"): 4, ("b", "c"): 2})

    def test_each_question_sees_the_stamps_that_the_earlier_ones_left(self):
        host = host_with([(("a", "b"), 5, {}), (("b", "c"), 5, {})])
        host.ask(any_read(0, "s", [("get", "b"), ("get", "a"), ("get", "b")]), 0, {})
        self.assertEqual(stamps(host), {("a", "b"): 4, ("b", "c"): 2})

    def test_only_entries_of_the_moment(self):
        host = host_with([(("a", "c"), 5, {"a": 5}), (("a", "b"), 6, {"a": 6})])
        host.ask(any_read(0, "s", [("get", "c")]), 0, {})
        self.assertEqual(stamps(host), {("a", "c"): 2, ("a", "b"): 1})
        read = any_read(1)
        self.assertEqual(host.ask(read, 0, {})[1], [told(read, [6], 6, [])])
        self.assertEqual(stamps(host), {("a", "c"): 2, ("a", "b"): 3})

    def test_a_read_that_is_not_answered_leaves_the_stamps(self):
        host = host_with([(A, 5, {})])
        host.ask(any_read(0, "s", [("get", "a"), ("get", "b")]), 0, {})
        host.ask(any_read(1), 0, {"s": 6})
        host.ask(age_read(1, 2), 50, {"s": 6})
        host.ask(newest_read(3), 50, {"s": 6})
        host.ask(age_read(1, 4, "t"), 50, {"s": 6})
        host.ask(newest_read(5, "t"), 50, {"s": 6})
        self.assertEqual(stamps(host), {A: 0})

    def test_patches_leave_the_stamps(self):
        host = host_with([(A, 5, {}), (B, 5, {})])
        host.handle(note(6, 0, put("a", 1)), 0, {})
        self.assertEqual(stamps(host), {A: 0, B: 1})


class Order(unittest.TestCase):
    """The order of the reads, and floors that grow within one call."""

    def test_reads_are_answered_in_the_order_in_which_they_came(self):
        host = Host(0, 400, 0)
        reads = [any_read(number, "s", [("get", "a")]) for number in [5, 2, 9]]
        for read in reads:
            self.assertEqual(host.ask(read, 0, {})[1], [])
        events = host.handle(answer(0, {"a": 1}, 1, 0, A), 0, {})[1]
        self.assertEqual(events, [told(read, [1], 1, []) for read in reads])
        self.assertEqual(host.waiting(), [])

    def test_those_that_wait_keep_their_order(self):
        host = Host(0, 400, 0)
        reads = [any_read(number, "s", [("get", key)]) for number, key in enumerate("bacad")]
        for read in reads:
            host.ask(read, 0, {})
        self.assertEqual(host.requests()[1], fetch(1, A))
        events = host.handle(answer(1, {"a": 1}, 1, 0, A), 0, {})[1]
        self.assertEqual(events, [told(reads[1], [1], 1, []), told(reads[3], [1], 1, [])])
        self.assertEqual(host.waiting(), [reads[0], reads[2], reads[4]])

    def test_an_answer_raises_the_floor_for_the_next_read(self):
        host = host_with([(A, 5, {"a": 5})])
        first = newest_read(0, "s", [("get", "b")])
        host.ask(first, 0, {})
        second = any_read(1, "s", [("get", "a")])
        third = any_read(2, "t", [("get", "a")])
        host.ask(second, 0, {"s": 6})
        host.ask(third, 0, {"s": 6, "t": 6})
        host.handle(leased(2, 0, 20, 5, 0, B), 0, {"s": 6, "t": 6})
        # The answer at moment 7 comes first, and moment 5 is below it for session s only.
        events = host.handle(answer(1, {"b": 7}, 7, 0, B), 0, {})[1]
        self.assertEqual(
            events, [told(first, [7], 7, [("lease", 0)]), told(third, [5], 5, [])]
        )
        self.assertEqual(host.waiting(), [second])

    def test_each_event_raises_its_floor(self):
        host = host_with([(A, 5, {"a": 5}), (B, 7, {"b": 7})])
        host.write("u", put("a", 1))
        reads = [
            any_read(0, "u", [("get", "b")]),
            any_read(1, "s", [("get", "b")]),
            any_read(2, "s", [("get", "a")]),
            any_read(3, "u", [("get", "a")]),
            any_read(4, "t", [("get", "a")]),
        ]
        for read in reads:
            host.ask(read, 0, {"s": 8, "t": 8, "u": 8})
        events = host.handle(written(2, 6, 0), 0, {})[1]
        expected = [
            ("written", "u", 2, 6), told(reads[0], [7], 7, []), told(reads[1], [7], 7, []),
            told(reads[4], [5], 5, []),
        ]
        self.assertEqual(events, expected)
        self.assertEqual(host.waiting(), [reads[2], reads[3]])

    def test_a_lesser_answer_does_not_lower_the_floor(self):
        host = host_with([(A, 5, {"a": 5}), (B, 7, {"b": 7})])
        reads = [
            any_read(0, "s", [("get", "b")]),
            any_read(1, "t", [("get", "a")]),
            any_read(2, "s", [("get", "a")]),
        ]
        for read in reads:
            host.ask(read, 0, {"s": 8, "t": 8})
        self.assertEqual(host.waiting(), reads)
        events = host.handle(recall(0), 0, {"s": 7})[1]
        self.assertEqual(events, [told(reads[0], [7], 7, []), told(reads[1], [5], 5, [])])

    def test_a_written_event_raises_the_floor(self):
        host = host_with([(A, 5, {"a": 5})])
        host.write("s", put("a", 1))
        host.write("s", put("a", 2))
        reads = [any_read(0, "s"), any_read(1, "t")]
        for read in reads:
            host.ask(read, 0, {"s": 9, "t": 9})
        events = host.handle(written(1, 6, 0), 0, {})[1]
        self.assertEqual(events, [("written", "s", 1, 6), told(reads[1], [5], 5, [])])
        self.assertEqual(host.waiting(), [reads[0]])
        # The host keeps no floors: the world passes them.
        events = host.handle(written(2, 4, 0), 0, {})[1]
        self.assertEqual(events, [("written", "s", 2, 4), told(reads[0], [5], 5, [])])

    def test_a_written_event_below_the_floor(self):
        host = host_with([(A, 5, {"a": 5})])
        host.write("s", put("a", 1))
        host.ask(any_read(0, "s"), 0, {"s": 9})
        self.assertEqual(host.handle(written(1, 3, 0), 0, {"s": 6})[1], [("written", "s", 1, 3)])

    def test_a_new_read_comes_after_those_that_wait(self):
        host = host_with([(A, 5, {"a": 5})])
        reads = [any_read(0, "s"), any_read(1, "t")]
        host.ask(reads[0], 0, {"s": 9})
        events = host.ask(reads[1], 0, {})[1]
        self.assertEqual(events, [told(read, [5], 5, []) for read in reads])


class Room(unittest.TestCase):
    """Point 46."""

    def test_just_enough_and_one_too_little(self):
        for room, covers in [(5, [A, B]), (4, [B]), (3, [B]), (2, []), (1, [])]:
            host = host_with([(A, 5, {"a": 1}), (B, 5, {"b": 1})], room)
            number = host.open_fetch(B)[3]
            host.handle(answer(number, {"b": 1, "ba": 2}, 5, 0, B), 0, {})
            self.assertEqual([entry[0] for entry in host.entries()], covers, room)

    def test_an_entry_without_records_weighs_1(self):
        host = host_with([(A, 5, {}), (B, 5, {}), (("c", "c"), 5, {})], 2)
        self.assertEqual([entry[0] for entry in host.entries()], [B, ("c", "c")])

    def test_stamps_decide_and_not_places(self):
        host = host_with([(A, 5, {}), (B, 5, {})], 2)
        host.ask(any_read(), 0, {})
        host.handle(answer(host.open_fetch(("c", "c"))[3], {}, 5, 0, ("c", "c")), 0, {})
        self.assertEqual(host.entries(), [(A, 5, {}, 2), (("c", "c"), 5, {}, 3)])

    def test_several_are_removed(self):
        host = host_with([(A, 5, {}), (B, 5, {}), (("c", "c"), 5, {})], 4)
        host.handle(answer(host.open_fetch(("d", "e"))[3], {"d": 1, "e": 1}, 5, 0, ("d", "e")), 0, {})
        self.assertEqual([entry[0] for entry in host.entries()], [("c", "c"), ("d", "e")])

    def test_no_more_than_needed_even_if_a_later_one_would_do(self):
        host = host_with([(A, 5, {}), (B, 5, {"b": 1, "ba": 1, "bb": 1})], 5)
        host.handle(answer(host.open_fetch(("c", "c"))[3], {}, 5, 0, ("c", "c")), 0, {})
        self.assertEqual([entry[0] for entry in host.entries()], [B, ("c", "c")])

    def test_a_read_that_comes_makes_room_after_its_answer(self):
        host = host_with([(A, 5, {"a": 1}), (B, 5, {})], 400)
        self.assertEqual(len(host.entries()), 2)
        small = Host(0, 1, 0)
        small.ask(any_read(), 0, {})
        events = small.handle(answer(0, {"a": 1}, 5, 0, A), 0, {})[1]
        self.assertEqual(events, [told(any_read(), [1], 5, [])])
        self.assertEqual(small.entries(), [])
        self.assertEqual(small.mark(), 5)

    def test_the_mark_jumps_again_when_all_entries_were_removed(self):
        host = host_with([(A, 5, {"a": 1})], 1)
        self.assertEqual(host.handle(beat(0, 9), 0, {}), ([], []))
        self.assertEqual(host.mark(), 9)


if __name__ == "__main__":
    unittest.main()
