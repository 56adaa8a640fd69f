"""Points 43 and 44: what a host does with each letter, and installing records."""

import unittest

from host_letters import (
    ALL, answer, any_read, beat, denied, fetch, give_back, host_state, host_with, leased,
    missing, note, put, recall, told, written,
)
from leasehall.host import Host

NOTHING = ([], [])


def host_with_requests():
    """A host with an open fetch 0, an open lease 1 and an open write 2 of session s."""
    host = Host(0, 400, 0)
    host.open_fetch(ALL)
    host.open_lease(ALL)
    host.write("s", put("a", 1))
    return host


class Replies(unittest.TestCase):
    """Point 43: "answer", "leased", "denied" and "written"."""

    def test_answer_for_an_open_fetch(self):
        host = host_with_requests()
        self.assertEqual(host.handle(answer(0, {"a": 1}, 2, 3), 5, {}), NOTHING)
        self.assertEqual(list(host.requests()), [1, 2])
        self.assertEqual(host.entries(), [(ALL, 2, {"a": 1}, 0)])

    def test_leased_for_an_open_lease(self):
        host = host_with_requests()
        self.assertEqual(host.handle(leased(1, 7, 20, 2, 3), 5, {}), NOTHING)
        self.assertEqual(list(host.requests()), [0, 2])
        self.assertEqual(host.leases(), {7: (ALL, 20, 2)})
        self.assertEqual(host.entries(), [])

    def test_denied_for_an_open_lease(self):
        host = host_with_requests()
        self.assertEqual(host.handle(denied(1), 5, {}), NOTHING)
        self.assertEqual(list(host.requests()), [0, 2])
        self.assertEqual(host.leases(), {})

    def test_written_for_an_open_write(self):
        host = host_with_requests()
        self.assertEqual(host.handle(written(2, 4, 3), 5, {}), ([], [("written", "s", 2, 4)]))
        self.assertEqual(list(host.requests()), [0, 1])
        self.assertEqual(host.mark(), 0)

    def test_numbers_that_are_not_open(self):
        for number in [-1, 3, 99]:
            for letter in [
                answer(number, {"a": 1}, 2, 3), leased(number, 7, 20, 2, 3),
                denied(number), written(number, 2, 3),
            ]:
                host = host_with_requests()
                before = host.requests()
                self.assertEqual(host.handle(letter, 5, {}), NOTHING)
                self.assertEqual(host.requests(), before)
                self.assertEqual((host.entries(), host.leases(), host.mark()), ([], {}, 0))

    def test_numbers_that_were_sent_with_another_kind(self):
        for letter in [
            answer(1, {"a": 1}, 2, 3), answer(2, {"a": 1}, 2, 3), leased(0, 7, 20, 2, 3),
            leased(2, 7, 20, 2, 3), denied(0), denied(2), written(0, 2, 3), written(1, 2, 3),
        ]:
            host = host_with_requests()
            before = host.requests()
            self.assertEqual(host.handle(letter, 5, {}), NOTHING)
            self.assertEqual(host.requests(), before)
            self.assertEqual((host.entries(), host.leases(), host.mark()), ([], {}, 0))

    def test_each_one_twice(self):
        host = host_with_requests()
        for letter in [answer(0, {"a": 1}, 2, 3), leased(1, 7, 20, 2, 3), written(2, 4, 3)]:
            host.handle(letter, 5, {})
        before = host_state(host)
        for letter in [
            answer(0, {"a": 1}, 2, 3), leased(1, 7, 20, 2, 3), written(2, 4, 3), denied(1),
            leased(1, 8, 20, 2, 3),
        ]:
            self.assertEqual(host.handle(letter, 5, {}), NOTHING)
            self.assertEqual(host_state(host), before)

    def test_leased_after_denied(self):
        host = host_with_requests()
        host.handle(denied(1), 5, {})
        host.handle(leased(1, 7, 20, 2, 3), 5, {})
        self.assertEqual(host.leases(), {})

    def test_a_lease_stays_after_its_end(self):
        host = host_with_requests()
        host.handle(leased(1, 7, 20, 2, 3), 5, {})
        host.handle(beat(90, 2), 90, {})
        host.nudge(90, {})
        self.assertEqual(host.leases(), {7: (ALL, 20, 2)})

    def test_several_leases(self):
        host = host_with_requests()
        host.open_lease(("b", "c"))
        host.handle(leased(3, 2, 15, 1, 3, ("b", "c")), 5, {})
        host.handle(leased(1, 7, 20, 2, 3), 5, {})
        self.assertEqual(host.leases(), {2: (("b", "c"), 15, 1), 7: (ALL, 20, 2)})


    def test_a_note_or_a_beat_closes_nothing(self):
        for letter in [note(1, 0, put("a", 1)), note(0, 1, put("a", 1)), beat(0, 0), beat(1, 2)]:
            host = host_with_requests()
            before = host.requests()
            self.assertEqual(host.handle(letter, 5, {}), NOTHING)
            self.assertEqual(host.requests(), before)


class Recalls(unittest.TestCase):
    """Point 43: "recall"."""

    def test_recall_after_leased(self):
        host = host_with_requests()
        host.handle(leased(1, 7, 20, 2, 3), 5, {})
        self.assertEqual(host.handle(recall(7), 5, {}), ([give_back(7)], []))
        self.assertEqual(host.leases(), {})

    def test_recall_before_leased(self):
        host = host_with_requests()
        self.assertEqual(host.handle(recall(7), 5, {}), ([give_back(7)], []))
        self.assertIn(1, host.requests())
        self.assertEqual(host.handle(leased(1, 7, 20, 2, 3), 5, {}), NOTHING)
        self.assertNotIn(1, host.requests())
        self.assertEqual(host.leases(), {})

    def test_recall_of_a_lease_that_the_host_never_had(self):
        host = host_with_requests()
        host.handle(leased(1, 7, 20, 2, 3), 5, {})
        self.assertEqual(host.handle(recall(3), 5, {}), ([give_back(3)], []))
        self.assertEqual(host.leases(), {7: (ALL, 20, 2)})

    def test_recall_twice(self):
        host = host_with_requests()
        host.handle(leased(1, 7, 20, 2, 3), 5, {})
        for _ in range(3):
            self.assertEqual(host.handle(recall(7), 5, {}), ([give_back(7)], []))

    def test_another_lease_for_the_next_request(self):
        host = host_with_requests()
        host.handle(recall(7), 5, {})
        host.handle(leased(1, 8, 20, 2, 3), 5, {})
        self.assertEqual(host.leases(), {8: (ALL, 20, 2)})


class Beats(unittest.TestCase):
    """Point 43: "beat"."""

    def test_without_entries(self):
        host = Host(0, 400, 0)
        self.assertEqual(host.handle(beat(3, 0), 5, {}), NOTHING)
        self.assertEqual(host.mark(), 0)
        self.assertEqual(host.handle(beat(3, 6), 5, {}), NOTHING)
        self.assertEqual(host.mark(), 6)
        for moment in [0, 5, 6]:
            self.assertEqual(host.handle(beat(3, moment), 5, {}), NOTHING)
            self.assertEqual(host.mark(), 6)
        self.assertEqual(host.handle(beat(3, 7), 5, {}), NOTHING)
        self.assertEqual(host.mark(), 7)

    def test_without_entries_the_log_becomes_empty(self):
        host = Host(0, 400, 0)
        host.handle(note(1, 0, put("a", 1)), 5, {})
        host.handle(note(2, 0, put("a", 2)), 5, {})
        host.handle(beat(3, 3), 5, {})
        # The log would be needed to bring the records of moment 1 to the mark.
        host.handle(answer(host.open_fetch(ALL)[3], {"a": 1}, 1, 0), 5, {})
        self.assertEqual(host.entries(), [])

    def test_a_beat_at_the_mark_keeps_the_log(self):
        host = Host(0, 400, 0)
        host.handle(note(1, 0, put("a", 1)), 5, {})
        host.handle(note(2, 0, put("a", 2)), 5, {})
        for moment in [1, 2]:
            host.handle(beat(3, moment), 5, {})
        host.handle(answer(host.open_fetch(ALL)[3], {"a": 1}, 1, 0), 5, {})
        self.assertEqual(host.entries(), [(ALL, 2, {"a": 2}, 0)])

    def test_without_entries_early_notes_move_the_mark_on(self):
        host = Host(0, 400, 0)
        for c in [6, 7, 9]:
            host.handle(note(c, 0, put("a", c)), 5, {})
        host.handle(beat(3, 5), 5, {})
        self.assertEqual(host.mark(), 7)
        host.handle(answer(host.open_fetch(ALL)[3], {"a": 5}, 5, 0), 5, {})
        self.assertEqual(host.entries(), [(ALL, 7, {"a": 7}, 0)])

    def test_with_entries(self):
        host = host_with([(ALL, 4, {})])
        for moment in [0, 3, 4]:
            self.assertEqual(host.handle(beat(3, moment), 5, {}), NOTHING)
        for moment in [5, 9]:
            self.assertEqual(host.handle(beat(3, moment), 5, {}), ([missing(5)], []))
        self.assertEqual(host.mark(), 4)

    def test_with_an_entry_beyond_the_mark(self):
        host = host_with([(("a", "a"), 4, {}), (("b", "b"), 8, {})])
        self.assertEqual(host.handle(beat(3, 6), 5, {}), ([missing(5)], []))
        self.assertEqual(host.mark(), 4)

    def test_missing_names_the_host_and_the_incarnation(self):
        host = Host(2, 400, 0)
        host.fall()
        host.handle(answer(host.open_fetch(ALL)[3], {}, 1, 0, ALL, 2, 1), 5, {})
        self.assertEqual(host.handle(beat(3, 4, 2), 5, {}), ([missing(2, 2, 1)], []))


class Installing(unittest.TestCase):
    """Point 44."""

    def install(self, host, cover, moment, records):
        host.handle(answer(host.open_fetch(cover)[3], records, moment, 0, cover), 5, {})

    def test_beyond_the_mark_without_entries(self):
        host = Host(0, 400, 0)
        host.handle(note(1, 0, put("a", 1)), 5, {})
        host.handle(note(2, 0, put("a", 2)), 5, {})
        self.install(host, ALL, 5, {"c": 3})
        self.assertEqual((host.mark(), host.entries()), (5, [(ALL, 5, {"c": 3}, 0)]))
        # The log became empty: nothing of moment 1 can be brought to the mark.
        self.install(host, ("a", "a"), 1, {"a": 1})
        self.assertEqual(host.entries(), [(ALL, 5, {"c": 3}, 0)])

    def test_the_mark_moves_after_the_installation(self):
        host = Host(0, 400, 0)
        for c in [4, 6, 7, 9]:
            host.handle(note(c, 0, put("a", c)), 5, {})
        self.install(host, ALL, 5, {"c": 3})
        self.assertEqual((host.mark(), host.entries()), (7, [(ALL, 7, {"a": 7, "c": 3}, 0)]))

    def test_beyond_the_mark_with_entries(self):
        host = host_with([(("a", "a"), 2, {})])
        self.install(host, ("b", "c"), 5, {"b": 1})
        self.assertEqual(host.mark(), 2)
        self.assertEqual(host.entries(), [(("a", "a"), 2, {}, 0), (("b", "c"), 5, {"b": 1}, 1)])

    def test_beyond_the_mark_with_entries_the_log_stays(self):
        host = host_with([(("a", "a"), 0, {})])
        host.handle(note(1, 0, put("b", 1)), 5, {})
        self.install(host, ("c", "c"), 5, {})
        self.install(host, ("b", "b"), 0, {})
        self.assertEqual(host.entries()[2], (("b", "b"), 1, {"b": 1}, 2))

    def test_at_the_mark(self):
        host = host_with([(("a", "a"), 2, {})])
        self.install(host, ("b", "c"), 2, {"b": 1})
        self.assertEqual(host.entries()[1], (("b", "c"), 2, {"b": 1}, 1))

    def test_at_the_mark_without_entries_the_log_stays(self):
        host = Host(0, 400, 0)
        host.handle(note(1, 0, put("b", 1)), 5, {})
        self.install(host, ("c", "c"), 1, {})
        self.install(host, ("b", "b"), 0, {})
        self.assertEqual(host.entries()[1], (("b", "b"), 1, {"b": 1}, 1))

    def test_below_the_mark_with_a_full_log(self):
        host = Host(0, 400, 0)
        groups = [put("a", 1), (("b", 2), ("x", 9)), put("a", None), put("c", 4)]
        for c, group in enumerate(groups, start=1):
            host.handle(note(c, 0, group), 5, {})
        self.install(host, ("a", "c"), 1, {"a": 1})
        self.assertEqual(host.entries(), [(("a", "c"), 4, {"b": 2, "c": 4}, 0)])
        self.install(host, ("a", "b"), 3, {"b": 2})
        self.assertEqual(host.entries()[1], (("a", "b"), 4, {"b": 2}, 1))
        self.assertEqual(host.mark(), 4)

    def test_below_the_mark_with_a_log_that_lacks_a_group(self):
        host = Host(0, 400, 0)
        host.handle(beat(0, 3), 5, {})
        host.handle(note(4, 0, put("a", 4)), 5, {})
        host.handle(note(5, 0, put("a", 5)), 5, {})
        self.install(host, ALL, 2, {})
        self.assertEqual((host.mark(), host.entries(), host.requests()), (5, [], {}))
        self.install(host, ALL, 3, {})
        self.assertEqual(host.entries(), [(ALL, 5, {"a": 5}, 0)])

    def test_what_is_not_installed_takes_no_stamp_and_removes_nothing(self):
        host = host_with([(("a", "b"), 3, {"a": 1})])
        self.install(host, ALL, 2, {})
        self.assertEqual(host.entries(), [(("a", "b"), 3, {"a": 1}, 0)])
        self.install(host, ("x", "x"), 3, {})
        self.assertEqual([entry[3] for entry in host.entries()], [0, 1])

    def test_entries_that_are_replaced(self):
        host = host_with([(("b", "c"), 3, {}), (("a", "e"), 3, {}), (("d", "d"), 3, {})])
        self.install(host, ("b", "d"), 3, {"c": 1})
        expected = [(("a", "e"), 3, {}, 1), (("b", "d"), 3, {"c": 1}, 3)]
        self.assertEqual(host.entries(), expected)

    def test_an_equal_cover_is_replaced_and_a_wider_or_crossing_one_is_not(self):
        host = host_with([(("b", "d"), 3, {}), (("a", "c"), 3, {}), (("a", "d"), 3, {})])
        self.assertEqual([entry[0] for entry in host.entries()], [("a", "d")])
        self.install(host, ("b", "e"), 3, {})
        self.install(host, ("a", "d"), 3, {"a": 5})
        self.assertEqual(host.entries(), [(("b", "e"), 3, {}, 3), (("a", "d"), 3, {"a": 5}, 4)])

    def test_later_entries_are_not_replaced(self):
        host = host_with([(("a", "a"), 3, {}), (("b", "b"), 5, {}), (("c", "c"), 4, {})])
        self.install(host, ALL, 4, {})
        expected = [(("b", "b"), 5, {}, 1), (ALL, 4, {}, 3)]
        self.assertEqual(host.entries(), expected)

    def test_the_moment_after_patching_counts(self):
        host = host_with([(("a", "b"), 3, {})])
        host.handle(note(4, 0, put("a", 4)), 5, {})
        self.install(host, ALL, 3, {"z": 1})
        self.assertEqual(host.entries(), [(ALL, 4, {"a": 4, "z": 1}, 1)])

    def test_empty_covers(self):
        host = host_with([(("b", "a"), 3, {})])
        self.install(host, ("x", "x"), 3, {"x": 1})
        self.assertEqual(host.entries(), [(("x", "x"), 3, {"x": 1}, 1)])
        self.install(host, ("d", "c"), 3, {})
        self.assertEqual([entry[0] for entry in host.entries()], [("x", "x"), ("d", "c")])

    def test_an_entry_that_is_beyond_the_mark_takes_later_notes(self):
        host = host_with([(("a", "a"), 2, {}), (("b", "b"), 4, {"b": 40})])
        for c in [5, 3, 4]:
            host.handle(note(c, 0, put("b", c)), 5, {})
        self.assertEqual(host.entries()[1], (("b", "b"), 5, {"b": 5}, 1))


class AfterLetters(unittest.TestCase):
    """Point 48: after a letter, effect or not, reads are answered and room is made."""

    def waiting_host(self):
        host = host_with([(ALL, 4, {"a": 1})])
        host.write("t", put("a", 2))
        self.assertEqual(host.ask(any_read(), 0, {"s": 5})[1], [])
        return host

    def test_each_letter_answers(self):
        for letter in [
            note(1, 0, put("a", 1)), beat(0, 2), answer(77, {}, 1, 0), leased(77, 1, 2, 1, 0),
            denied(77), recall(77), written(77, 1, 0),
        ]:
            host = self.waiting_host()
            events = host.handle(letter, 0, {"s": 4})[1]
            self.assertEqual(events, [told(any_read(), [1], 4, [])], letter)
            self.assertEqual(host.waiting(), [])

    def test_events_of_the_letter_come_first(self):
        host = self.waiting_host()
        events = host.handle(written(1, 3, 0), 0, {"s": 4})[1]
        self.assertEqual(events, [("written", "t", 1, 3), told(any_read(), [1], 4, [])])

    def test_a_letter_asks_for_nothing(self):
        host = Host(0, 400, 0)
        host.ask((0, "s", [("get", "a"), ("get", "b")], ("newest",)), 0, {})
        host.handle(denied(2), 0, {})
        host.handle(denied(3), 0, {})
        self.assertEqual(host.requests(), {0: fetch(0, ("a", "a")), 1: fetch(1, ("b", "b"))})
        self.assertEqual(host.handle(answer(0, {}, 2, 0, ("a", "a")), 0, {}), NOTHING)
        self.assertEqual(host.handle(answer(1, {}, 3, 0, ("b", "b")), 0, {}), NOTHING)
        self.assertEqual(host.handle(recall(5), 0, {}), ([give_back(5)], []))
        self.assertEqual(host.requests(), {})
        self.assertEqual(len(host.waiting()), 1)

    def test_a_note_makes_room(self):
        host = host_with([(("a", "c"), 0, {}), (("d", "f"), 0, {})], 3)
        self.assertEqual(len(host.entries()), 2)
        host.handle(note(1, 0, put("e", 1)), 0, {})
        self.assertEqual(len(host.entries()), 2)
        host.handle(note(2, 0, put("f", 1)), 0, {})
        self.assertEqual(host.entries(), [(("d", "f"), 2, {"e": 1, "f": 1}, 1)])

    def test_reads_are_answered_before_room_is_made(self):
        host = Host(0, 2, 0)
        host.ask(any_read(0, "s", [("sum", "a", "c")]), 0, {})
        events = host.handle(answer(0, {"a": 1, "b": 2}, 1, 0, ("a", "c")), 0, {})[1]
        self.assertEqual(events, [told(any_read(0, "s", [("sum", "a", "c")]), [3], 1, [])])
        self.assertEqual(host.entries(), [])


if __name__ == "__main__":
    unittest.main()
