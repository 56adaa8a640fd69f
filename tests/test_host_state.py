"""Points 39 to 42, and point 2 for hosts."""

import copy
import unittest

from host_letters import (
    ALL, answer, any_read, beat, denied, fetch, give_back, host_state, host_with, lease, leased,
    missing, newest_read, note, put, recall, told, written,
)
from leasehall.errors import NotFound
from leasehall.host import Host

NEW = (0, 0, [], [], {}, {}, {})


def busy_host():
    """A host that has something of everything, its clock at 5."""
    host = host_with([(("a", "c"), 3, {"a": 1})])
    host.handle(note(4, 4, put("b", 2)), 5, {})
    host.handle(note(7, 5, put("c", 2)), 5, {})
    host.write("s", put("d", 4))
    number = host.open_lease(("a", "c"))[3]
    host.handle(leased(number, 6, 9, 4, 5, ("a", "c")), 5, {})
    host.handle(recall(2), 5, {})
    host.ask(newest_read(0, "t", [("get", "x")]), 5, {})
    return host


class Beginnings(unittest.TestCase):
    """Point 39."""

    def test_new_host(self):
        for index, room, error_bound in [(0, 1, 0), (3, 400, 9)]:
            self.assertEqual(host_state(Host(index, room, error_bound)), NEW)

    def test_numbers_begin_at_0(self):
        host = Host(2, 10, 1)
        self.assertEqual(host.open_fetch(ALL), fetch(0, ALL, 2))
        self.assertEqual(host.open_lease(ALL), lease(1, ALL, 2))
        letters, events = host.write("s", put("a", 1))
        self.assertEqual(letters, [("write", 2, 0, 2, put("a", 1))])
        self.assertEqual(events, [])
        self.assertEqual(list(host.requests()), [0, 1, 2])

    def test_stamps_begin_at_0(self):
        host = host_with([(("a", "b"), 1, {}), (("c", "d"), 1, {})])
        self.assertEqual([entry[3] for entry in host.entries()], [0, 1])

    def test_index_and_incarnation_are_in_the_letters(self):
        host = Host(3, 10, 0)
        host.fall()
        host.fall()
        self.assertEqual(host.open_fetch(("b", "c")), fetch(0, ("b", "c"), 3, 2))
        self.assertEqual(host.open_lease(("b", "c")), lease(1, ("b", "c"), 3, 2))
        self.assertEqual(host.write("s", put("a", 1))[0], [("write", 3, 2, 2, put("a", 1))])
        self.assertEqual(host.handle(recall(4, 3, 2), 0, {}), ([give_back(4, 3, 2)], []))


class Falls(unittest.TestCase):
    """Point 40."""

    def test_a_fall_loses_everything(self):
        host = busy_host()
        self.assertNotIn([], [list(part) for part in host_state(host)[2:]])
        self.assertEqual(host.mark(), 4)
        host.fall()
        self.assertEqual(host_state(host), (1,) + NEW[1:])
        host.fall()
        self.assertEqual(host_state(host), (2,) + NEW[1:])

    def test_the_room_and_the_error_bound_stay(self):
        host = Host(0, 2, 3)
        host.fall()
        number = host.open_fetch(("a", "c"))[3]
        host.handle(answer(number, {"a": 1, "b": 2}, 1, 0, ("a", "c"), 0, 1), 0, {})
        self.assertEqual(host.entries(), [])
        number = host.open_lease(("a", "a"))[3]
        host.handle(leased(number, 0, 8, 1, 0, ("a", "a"), 0, 1), 0, {})
        host.ask(newest_read(), 5, {})
        self.assertEqual(host.leases(), {0: (("a", "a"), 8, 1)})
        self.assertIn(lease(3, ("a", "a"), 0, 1), host.requests().values())

    def test_the_log_and_early_notes_are_gone(self):
        host = busy_host()
        host.fall()
        for c in [5, 6]:
            host.handle(note(c, 5, put("a", c)), 5, {})
        self.assertEqual(host.mark(), 0)
        host.handle(answer(host.open_fetch(ALL)[3], {}, 3, 5, ALL, 0, 1), 5, {})
        # The early notes of commits 5 and 6 are of the new incarnation, the one of 7 is not.
        self.assertEqual(host.mark(), 3)
        host.handle(note(4, 5, put("b", 1)), 5, {})
        self.assertEqual(host.mark(), 6)

    def test_leases_that_were_given_back_are_forgotten(self):
        host = busy_host()
        host.fall()
        number = host.open_lease(ALL)[3]
        host.handle(leased(number, 2, 50, 0, 5, ALL, 0, 1), 5, {})
        self.assertEqual(host.leases(), {2: (ALL, 50, 0)})

    def test_numbers_and_stamps_begin_again(self):
        host = busy_host()
        host.fall()
        self.assertEqual(host.open_fetch(ALL), fetch(0, ALL, 0, 1))
        host.handle(answer(0, {"a": 1}, 2, 6, ALL, 0, 1), 6, {})
        self.assertEqual(host.entries(), [(ALL, 2, {"a": 1}, 0)])

    def test_letters_of_another_incarnation_have_no_effect(self):
        host = busy_host()
        host.fall()
        host.open_fetch(ALL)
        host.open_lease(ALL)
        host.write("s", put("a", 1))
        host.ask(any_read(), 5, {})
        before = host_state(host)
        for incarnation in [0, 2, -1]:
            for letter in [
                answer(0, {"a": 1}, 9, 9, ALL, 0, incarnation),
                leased(1, 3, 50, 9, 9, ALL, 0, incarnation),
                denied(1, 0, incarnation),
                recall(0, 0, incarnation),
                written(2, 9, 9, 0, incarnation),
            ]:
                self.assertEqual(host.handle(letter, 9, {}), ([], []))
                self.assertEqual(host_state(host), before)

    def test_another_incarnation_does_not_even_answer_the_reads(self):
        host = host_with([(ALL, 4, {"a": 1})])
        read = any_read()
        self.assertEqual(host.ask(read, 0, {"s": 5})[1], [])
        self.assertEqual(host.handle(denied(77, 0, 1), 0, {}), ([], []))
        self.assertEqual(host.handle(denied(77, 0, 0), 0, {}), ([], [told(read, [1], 4, [])]))

    def test_notes_and_beats_reach_each_incarnation(self):
        host = Host(0, 400, 0)
        host.fall()
        host.handle(note(1, 3, put("a", 1)), 5, {})
        self.assertEqual(host.mark(), 1)
        host.handle(beat(4, 2), 5, {})
        self.assertEqual((host.mark(), host.statements()), (2, {1: 3, 2: 4}))


class Statements(unittest.TestCase):
    """Point 41."""

    def noted(self, *letters):
        host = Host(0, 400, 0)
        for letter in letters:
            host.handle(letter, 50, {})
        return host.statements()

    def test_each_letter_that_notes_one(self):
        self.assertEqual(self.noted(answer(0, {}, 4, 7)), {4: 7})
        self.assertEqual(self.noted(leased(0, 3, 20, 4, 7)), {4: 7})
        self.assertEqual(self.noted(written(0, 4, 7)), {4: 7})
        self.assertEqual(self.noted(beat(7, 4)), {4: 7})
        self.assertEqual(self.noted(note(4, 7, put("a", 1))), {4: 7})

    def test_the_others_note_none(self):
        self.assertEqual(self.noted(recall(3), denied(0)), {})

    def test_open_requests_note_one_too(self):
        host = Host(0, 400, 0)
        host.open_fetch(ALL)
        host.open_lease(ALL)
        host.write("s", put("a", 1))
        host.handle(answer(0, {}, 4, 7), 50, {})
        host.handle(leased(1, 0, 60, 5, 8), 50, {})
        host.handle(written(2, 6, 9), 50, {})
        self.assertEqual(host.statements(), {4: 7, 5: 8, 6: 9})

    def test_a_letter_of_an_earlier_incarnation_notes_none(self):
        host = Host(0, 400, 0)
        host.fall()
        for letter in [answer(0, {}, 4, 7), leased(0, 3, 20, 4, 7), written(0, 4, 7)]:
            host.handle(letter, 50, {})
        self.assertEqual(host.statements(), {})

    def test_an_earlier_time_does_not_replace(self):
        self.assertEqual(self.noted(beat(7, 4), beat(6, 4)), {4: 7})
        self.assertEqual(self.noted(beat(7, 4), beat(7, 4)), {4: 7})

    def test_a_later_time_replaces(self):
        self.assertEqual(self.noted(beat(7, 4), beat(8, 4)), {4: 8})

    def test_lesser_and_greater_moments_stand_apart(self):
        self.assertEqual(self.noted(beat(7, 4), beat(9, 5), beat(3, 2)), {4: 7, 5: 9, 2: 3})
        self.assertEqual(self.noted(beat(9, 5), beat(7, 4)), {5: 9, 4: 7})

    def test_time_and_moment_0(self):
        self.assertEqual(self.noted(beat(0, 0)), {0: 0})
        self.assertEqual(self.noted(beat(0, 0), beat(1, 0)), {0: 1})

    def test_a_note_below_the_mark(self):
        self.assertEqual(self.noted(beat(9, 5), note(3, 6, put("a", 1))), {5: 9, 3: 6})

    def test_it_is_noted_before_anything_else(self):
        host = host_with([(ALL, 1, {"a": 5})])
        read = (0, "s", [("get", "a")], ("age", 0))
        self.assertEqual(host.ask(read, 9, {})[1], [])
        events = host.handle(beat(9, 1), 9, {})[1]
        self.assertEqual(events, [told(read, [5], 1, [("at", 9, 1)])])


class Marks(unittest.TestCase):
    """Point 42."""

    def test_notes_in_order(self):
        host = Host(0, 400, 0)
        for c in [1, 2, 3]:
            self.assertEqual(host.handle(note(c, c, put("a", c)), 5, {}), ([], []))
            self.assertEqual(host.mark(), c)

    def test_notes_in_every_order(self):
        for order, marks in [
            ([1, 3, 2], [1, 1, 3]),
            ([2, 1, 3], [0, 2, 3]),
            ([2, 3, 1], [0, 0, 3]),
            ([3, 1, 2], [0, 1, 3]),
            ([3, 2, 1], [0, 0, 3]),
        ]:
            host = Host(0, 400, 0)
            seen = []
            for c in order:
                host.handle(note(c, c, put("a", c)), 5, {})
                seen.append(host.mark())
            self.assertEqual(seen, marks)

    def test_entries_follow_notes_in_every_order(self):
        for order in [[1, 2, 3], [1, 3, 2], [2, 1, 3], [2, 3, 1], [3, 1, 2], [3, 2, 1]]:
            host = host_with([(("a", "c"), 0, {})])
            groups = {1: put("a", 1), 2: (("a", 2), ("b", 2), ("x", 2)), 3: put("a", None)}
            for c in order:
                host.handle(note(c, c, groups[c]), 5, {})
            self.assertEqual(host.entries(), [(("a", "c"), 3, {"b": 2}, 0)])

    def test_notes_twice(self):
        host = host_with([(ALL, 0, {})])
        for c in [1, 1, 3, 3, 2, 2, 1, 3]:
            host.handle(note(c, c, put("abc"[c - 1], c)), 5, {})
        self.assertEqual(host.mark(), 3)
        self.assertEqual(host.entries(), [(ALL, 3, {"a": 1, "b": 2, "c": 3}, 0)])

    def test_notes_up_to_the_mark_do_nothing(self):
        host = host_with([(ALL, 5, {"a": 5})])
        self.assertEqual(host.mark(), 5)
        for c in [0, 1, 4, 5]:
            host.handle(note(c, 0, put("a", 9)), 5, {})
        self.assertEqual(host.entries(), [(ALL, 5, {"a": 5}, 0)])
        host.handle(note(7, 0, put("b", 7)), 5, {})
        self.assertEqual(host.mark(), 5)
        host.handle(note(6, 0, put("a", 6)), 5, {})
        self.assertEqual((host.mark(), host.entries()), (7, [(ALL, 7, {"a": 6, "b": 7}, 0)]))

    def test_entries_at_the_mark_and_beyond_it(self):
        host = host_with([(("a", "a"), 3, {}), (("b", "b"), 5, {}), (("b", "c"), 4, {})])
        moments = [[entry[1] for entry in host.entries()]]
        for c in [4, 5, 6]:
            host.handle(note(c, 0, (("a", c), ("b", c))), 5, {})
            moments.append([entry[1] for entry in host.entries()])
        self.assertEqual(moments, [[3, 5, 4], [4, 5, 4], [5, 5, 5], [6, 6, 6]])
        self.assertEqual(host.entries()[1], (("b", "b"), 6, {"b": 6}, 1))
        self.assertEqual(host.entries()[2], (("b", "c"), 6, {"b": 6}, 2))

    def test_an_entry_beyond_the_mark_does_not_take_the_notes_that_it_has(self):
        host = host_with([(("a", "a"), 3, {}), (("b", "b"), 5, {"b": 50})])
        host.handle(note(4, 0, put("b", 4)), 5, {})
        host.handle(note(5, 0, put("b", None)), 5, {})
        self.assertEqual(host.entries()[1], (("b", "b"), 5, {"b": 50}, 1))

    def test_a_jump_removes_early_notes(self):
        host = Host(0, 400, 0)
        for c in [2, 4, 5, 7]:
            host.handle(note(c, 0, put("a", c)), 5, {})
        host.handle(beat(0, 3), 5, {})
        self.assertEqual(host.mark(), 5)
        host.handle(answer(host.open_fetch(ALL)[3], {}, 1, 0), 5, {})
        self.assertEqual(host.entries(), [])

    def test_a_jump_beyond_all_early_notes(self):
        host = Host(0, 400, 0)
        host.handle(note(3, 0, put("a", 3)), 5, {})
        host.handle(beat(0, 8), 5, {})
        self.assertEqual(host.mark(), 8)
        host.handle(answer(host.open_fetch(ALL)[3], {"b": 1}, 8, 0), 5, {})
        self.assertEqual(host.entries(), [(ALL, 8, {"b": 1}, 0)])


class Copies(unittest.TestCase):
    """Point 2."""

    def test_returned_lists_and_dicts_are_new(self):
        host = busy_host()
        before = host_state(host)
        host.waiting().clear()
        host.waiting()[0][2].append(("get", "y"))
        host.entries().clear()
        host.entries()[0][2]["z"] = 1
        host.leases().clear()
        host.statements()[99] = 9
        host.requests().clear()
        self.assertEqual(host_state(host), before)

    def test_what_was_returned_does_not_change(self):
        host = busy_host()
        parts = (
            host.waiting(), host.entries(), host.leases(), host.statements(), host.requests()
        )
        copies = copy.deepcopy(parts)
        host.handle(note(5, 6, put("a", 9)), 6, {})
        host.handle(recall(6), 6, {})
        host.ask(any_read(1), 6, {})
        self.assertEqual(parts, copies)

    def test_a_read_is_copied(self):
        host = Host(0, 400, 0)
        questions = [("get", "a")]
        host.ask((0, "s", questions, ("any",)), 0, {})
        questions.append(("get", "b"))
        self.assertEqual(host.waiting(), [(0, "s", [("get", "a")], ("any",))])
        events = host.handle(answer(0, {"a": 1}, 1, 0, ("a", "a")), 0, {})[1]
        self.assertEqual(events, [told(any_read(), [1], 1, [])])

    def test_the_read_that_is_told_is_not_the_one_that_was_given(self):
        host = host_with([(ALL, 1, {"a": 1})])
        questions = [("get", "a")]
        events = host.ask((0, "s", questions, ("any",)), 0, {})[1]
        questions.append(("get", "b"))
        self.assertEqual(events, [told(any_read(), [1], 1, [])])

    def test_the_read_that_is_given_up_is_not_the_one_that_was_given(self):
        host = Host(0, 400, 0)
        questions = [("get", "a")]
        host.ask((7, "s", questions, ("any",)), 0, {})
        given_up = host.give_up(7)
        questions.append(("get", "b"))
        self.assertEqual(given_up, (7, "s", [("get", "a")], ("any",)))

    def test_arguments_are_not_modified(self):
        host = host_with([(ALL, 3, {"a": 1})])
        host.write("s", put("a", 1))
        floors = {"t": 2}
        questions = [("get", "a"), ("get", "b")]
        read = (0, "s", questions, ("any",))
        self.assertEqual(len(host.ask(read, 0, floors)[1]), 1)
        self.assertEqual(len(host.handle(written(1, 3, 0), 0, floors)[1]), 1)
        self.assertEqual(host.nudge(0, floors), ([], []))
        self.assertEqual(floors, {"t": 2})
        self.assertEqual(read, (0, "s", [("get", "a"), ("get", "b")], ("any",)))

    def test_floors_are_not_kept(self):
        host = host_with([(ALL, 3, {"a": 1})])
        floors = {"s": 4}
        self.assertEqual(host.ask(any_read(), 0, floors)[1], [])
        floors["s"] = 3
        self.assertEqual(host.handle(recall(0), 0, {"s": 4})[1], [])
        self.assertEqual(len(host.handle(recall(0), 0, {"s": 3})[1]), 1)

    def test_a_call_that_raises_changes_nothing(self):
        host = busy_host()
        before = host_state(host)
        for number in [-1, 1, 99]:
            with self.assertRaises(NotFound):
                host.give_up(number)
        self.assertEqual(host_state(host), before)

    def test_letters_that_are_sent_are_lists_of_their_own(self):
        host = Host(0, 400, 0)
        letters, events = host.ask(any_read(), 0, {})
        letters.clear()
        events.append("x")
        self.assertEqual(host.nudge(0, {}), ([fetch(1, ("a", "a"))], []))
        host.handle(answer(1, {}, 3, 0), 0, {})
        host.handle(beat(0, 4), 0, {})[0].clear()
        self.assertEqual(host.handle(beat(0, 4), 0, {}), ([missing(4)], []))


if __name__ == "__main__":
    unittest.main()
