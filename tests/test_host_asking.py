"""Points 47 to 50: the letters that reads and nudges send."""

import unittest

from host_letters import (
    ALL, age_read, answer, any_read, denied, fetch, host_state, host_with, lease, leased, missing,
    newest_read, put, recall, told, written,
)
from leasehall.errors import NotFound
from leasehall.host import Host

A = ("a", "a")
B = ("b", "b")
C = ("c", "c")
AB = [("get", "a"), ("get", "b")]


class Fetches(unittest.TestCase):
    """Point 47, the first rule."""

    def test_each_promise_without_entries(self):
        for read in [any_read(), age_read(5), age_read(0)]:
            host = Host(0, 400, 0)
            self.assertEqual(host.ask(read, 0, {}), ([fetch(0, A)], []))
            self.assertEqual(host.requests(), {0: fetch(0, A)})
        host = Host(0, 400, 0)
        self.assertEqual(host.ask(newest_read(), 0, {}), ([fetch(0, A), lease(1, A)], []))
        self.assertEqual(host.requests(), {0: fetch(0, A), 1: lease(1, A)})

    def test_one_for_each_question_in_order(self):
        host = Host(0, 400, 0)
        read = any_read(0, "s", [("sum", "c", "d"), ("get", "b"), ("least", "a", "b"), ("count", "x", "y")])
        letters = [fetch(0, ("c", "d")), fetch(1, B), fetch(2, ("a", "b")), fetch(3, ("x", "y"))]
        self.assertEqual(host.ask(read, 0, {}), (letters, []))

    def test_covers_that_the_same_read_has_asked_for(self):
        host = Host(0, 400, 0)
        read = any_read(0, "s", [("sum", "a", "c"), ("get", "b"), ("get", "d"), ("list", "a", "c")])
        self.assertEqual(host.ask(read, 0, {}), ([fetch(0, ("a", "c")), fetch(1, ("d", "d"))], []))

    def test_empty_covers(self):
        host = Host(0, 400, 0)
        read = any_read(0, "s", [("sum", "b", "a"), ("count", "z", "y")])
        self.assertEqual(host.ask(read, 0, {}), ([fetch(0, ("b", "a"))], []))

    def test_covers_of_entries(self):
        host = host_with([(("a", "c"), 5, {})])
        read = any_read(0, "s", [("get", "b"), ("get", "d"), ("sum", "b", "d")])
        letters = [fetch(1, ("d", "d")), fetch(2, ("b", "d"))]
        self.assertEqual(host.ask(read, 0, {}), (letters, []))

    def test_covers_of_open_fetches(self):
        host = Host(0, 400, 0)
        host.open_fetch(("a", "c"))
        host.open_lease(ALL)
        host.write("s", put("x", 1))
        read = any_read(0, "s", [("get", "b"), ("get", "x")])
        self.assertEqual(host.ask(read, 0, {}), ([fetch(3, ("x", "x"))], []))

    def test_a_second_read_with_the_same_questions(self):
        host = Host(0, 400, 0)
        host.ask(any_read(0, "s", AB), 0, {})
        self.assertEqual(host.ask(any_read(1, "s", AB), 0, {}), ([], []))
        self.assertEqual(host.ask(newest_read(2, "s", AB), 0, {}), ([lease(2, A), lease(3, B)], []))

    def test_the_reads_that_waited_ask_again_with_a_new_one(self):
        host = Host(0, 400, 0)
        host.ask(newest_read(0, "s", AB), 0, {})
        host.handle(denied(2), 0, {})
        letters = [lease(4, A), fetch(5, C)]
        self.assertEqual(host.ask(any_read(1, "s", [("get", "c")]), 0, {}), (letters, []))

    def test_a_read_that_is_answered_asks_for_nothing(self):
        host = host_with([(ALL, 5, {"a": 1})])
        self.assertEqual(host.ask(any_read(), 0, {}), ([], [told(any_read(), [1], 5, [])]))
        self.assertEqual(host.requests(), {})


class Leases(unittest.TestCase):
    """Point 47, the second rule."""

    def test_fetches_come_before_leases(self):
        host = Host(0, 400, 0)
        letters = [fetch(0, A), fetch(1, B), lease(2, A), lease(3, B)]
        self.assertEqual(host.ask(newest_read(0, "s", AB), 0, {}), (letters, []))

    def test_covers_that_the_same_read_has_asked_for(self):
        host = host_with([(ALL, 5, {})])
        read = newest_read(0, "s", [("sum", "a", "c"), ("get", "b"), ("get", "d")])
        self.assertEqual(host.ask(read, 0, {}), ([lease(1, ("a", "c")), lease(2, ("d", "d"))], []))

    def test_covers_of_leases_that_have_not_ended(self):
        for error_bound in [0, 3]:
            for reading, letters in [(19, [lease(2, C)]), (20, [lease(2, A), lease(3, C)])]:
                host = host_with([(ALL, 5, {})], error_bound=error_bound)
                host.handle(leased(host.open_lease(("a", "b"))[3], 0, 20, 5, 0, ("a", "b")), 0, {})
                read = newest_read(0, "s", [("get", "a"), ("get", "c")])
                self.assertEqual(host.ask(read, reading - error_bound, {}), (letters, []))

    def test_covers_of_open_leases(self):
        host = host_with([(ALL, 5, {})])
        host.open_lease(("a", "b"))
        host.open_fetch(ALL)
        read = newest_read(0, "s", [("get", "b"), ("sum", "b", "c")])
        self.assertEqual(host.ask(read, 0, {}), ([lease(3, ("b", "c"))], []))

    def test_the_moment_of_the_lease_does_not_matter(self):
        host = host_with([(ALL, 5, {})])
        host.handle(leased(host.open_lease(ALL)[3], 0, 20, 8, 0), 0, {})
        # All covers are there, so the third rule asks for a newer moment.
        self.assertEqual(host.ask(newest_read(), 0, {}), ([fetch(2, A), missing(6)], []))

    def test_recalled_leases_are_asked_for_again(self):
        host = host_with([(ALL, 5, {})])
        host.handle(leased(host.open_lease(ALL)[3], 0, 20, 8, 0), 0, {})
        host.handle(recall(0), 0, {})
        self.assertEqual(host.ask(newest_read(), 0, {}), ([lease(2, A)], []))

    def test_the_other_promises_ask_for_no_lease(self):
        host = host_with([(A, 5, {})])
        letters, _ = host.ask(age_read(0, 0, "s", AB), 50, {})
        self.assertEqual(letters, [fetch(1, B)])
        letters, _ = host.ask(any_read(1, "s", [("get", "c")]), 50, {"s": 9})
        self.assertEqual(letters, [fetch(2, C)])


class Further(unittest.TestCase):
    """Point 47, the third rule."""

    def test_entries_that_are_too_old(self):
        host = host_with([(ALL, 5, {"a": 1})])
        self.assertEqual(host.ask(any_read(), 0, {"s": 6}), ([fetch(1, A), missing(6)], []))
        self.assertEqual(host.requests(), {1: fetch(1, A)})
        host = host_with([(ALL, 5, {"a": 1})])
        read = age_read(3, 0, "s", [("sum", "b", "c"), ("get", "a")])
        self.assertEqual(host.ask(read, 9, {}), ([fetch(1, ("b", "c")), missing(6)], []))

    def test_entries_without_a_common_moment(self):
        host = host_with([(A, 5, {}), (B, 6, {})])
        self.assertEqual(host.ask(any_read(0, "s", AB), 0, {}), ([fetch(2, A), missing(6)], []))

    def test_not_if_the_first_rule_sent_something(self):
        host = host_with([(A, 5, {})])
        self.assertEqual(host.ask(any_read(0, "s", AB), 0, {"s": 9}), ([fetch(1, B)], []))

    def test_not_if_the_second_rule_sent_something(self):
        host = host_with([(ALL, 5, {})])
        self.assertEqual(host.ask(newest_read(), 0, {}), ([lease(1, A)], []))

    def test_it_comes_once_the_lease_is_asked_for(self):
        host = host_with([(ALL, 5, {})])
        host.ask(newest_read(), 0, {})
        # The new read has nothing to do with the old one, which asks again.
        letters, _ = host.ask(any_read(1, "t", [("get", "b")]), 0, {"t": 9})
        self.assertEqual(letters, [fetch(2, A), missing(6), fetch(3, B), missing(6)])

    def test_not_with_an_open_fetch_for_the_first_question(self):
        host = host_with([(ALL, 5, {})])
        host.open_fetch(("a", "b"))
        self.assertEqual(host.ask(any_read(0, "s", AB), 0, {"s": 9}), ([], []))

    def test_not_with_an_open_fetch_for_another_question(self):
        host = host_with([(ALL, 5, {})])
        host.open_fetch(B)
        self.assertEqual(host.ask(any_read(0, "s", AB), 0, {"s": 9}), ([], []))

    def test_with_an_open_fetch_that_is_too_small_or_elsewhere(self):
        host = host_with([(ALL, 5, {})])
        host.open_fetch(A)
        host.open_fetch(("c", "d"))
        host.open_lease(ALL)
        host.write("s", put("a", 1))
        read = any_read(0, "s", [("sum", "a", "b")])
        self.assertEqual(host.ask(read, 0, {"s": 9}), ([fetch(5, ("a", "b")), missing(6)], []))

    def test_without_entries_no_missing_is_sent(self):
        host = Host(0, 400, 0)
        host.open_fetch(ALL)
        read = newest_read(0, "s", [("get", "a")])
        self.assertEqual(host.ask(read, 0, {}), ([lease(1, A)], []))
        # With an open fetch nothing more is sent; the first rule covers the rest.
        self.assertEqual(host.ask(any_read(1), 0, {}), ([], []))

    def test_two_reads_share_the_further_fetch(self):
        host = host_with([(ALL, 5, {})])
        host.ask(any_read(0), 0, {"s": 9})
        self.assertEqual(host.ask(any_read(1), 0, {"s": 9}), ([], []))

    def test_missing_begins_after_the_mark(self):
        host = host_with([(A, 5, {}), (B, 8, {})])
        letters, _ = host.ask(any_read(0), 0, {"s": 9})
        self.assertEqual(letters, [fetch(2, A), missing(6)])

    def test_entries_that_were_removed_for_want_of_room(self):
        host = host_with([(A, 5, {"a": 1})], room=1)
        self.assertEqual(host.ask(any_read(), 0, {}), ([fetch(1, A)], []))


class Nudges(unittest.TestCase):
    """Point 49."""

    def test_nothing_to_do(self):
        host = Host(0, 400, 0)
        self.assertEqual(host.nudge(0, {}), ([], []))

    def test_open_fetches_and_leases_are_closed(self):
        host = Host(0, 400, 0)
        host.open_fetch(ALL)
        host.open_lease(ALL)
        self.assertEqual(host.nudge(0, {}), ([], []))
        self.assertEqual(host.requests(), {})
        host.handle(answer(0, {}, 3, 0), 0, {})
        host.handle(leased(1, 0, 20, 3, 0), 0, {})
        self.assertEqual((host.entries(), host.leases()), ([], {}))

    def test_writes_are_sent_again_by_number(self):
        host = Host(0, 400, 0)
        writes = [host.write("s", put("a", 0))[0][0]]
        host.open_fetch(ALL)
        writes.append(host.write("t", put("b", 1))[0][0])
        host.open_lease(ALL)
        writes.append(host.write("s", put("c", 2))[0][0])
        self.assertEqual(host.nudge(0, {}), (writes, []))
        self.assertEqual(host.requests(), {0: writes[0], 2: writes[1], 4: writes[2]})
        host.handle(written(2, 1, 0), 0, {})
        self.assertEqual(host.nudge(0, {}), ([writes[0], writes[2]], []))
        self.assertEqual(host.handle(written(4, 2, 0), 0, {})[1], [("written", "s", 4, 2)])

    def test_reads_ask_again_with_new_numbers(self):
        host = Host(0, 400, 0)
        host.ask(newest_read(0, "s", AB), 0, {})
        write = host.write("s", put("a", 0))[0][0]
        host.ask(any_read(1, "s", [("get", "c")]), 0, {})
        letters = [write, fetch(6, A), fetch(7, B), lease(8, A), lease(9, B), fetch(10, C)]
        self.assertEqual(host.nudge(0, {}), (letters, []))
        self.assertEqual(host.requests(), {letter[3]: letter for letter in letters})

    def test_the_third_rule_comes_for_each_read_alone(self):
        host = host_with([(ALL, 5, {})])
        host.ask(any_read(0, "s", [("get", "b")]), 0, {"s": 9})
        host.ask(age_read(0, 1, "s", [("sum", "a", "c")]), 50, {"s": 9})
        letters = [fetch(3, B), missing(6), fetch(4, ("a", "c")), missing(6)]
        self.assertEqual(host.nudge(50, {"s": 9}), (letters, []))

    def test_reads_that_can_be_answered_now(self):
        host = host_with([(ALL, 5, {"a": 1})])
        reads = [any_read(0), newest_read(1)]
        for read in reads:
            host.ask(read, 0, {"s": 6})
        letters, events = host.nudge(0, {})
        self.assertEqual(events, [told(reads[0], [1], 5, [])])
        self.assertEqual(letters, [lease(3, A)])

    def test_a_reading_that_fell_back_answers(self):
        host = host_with([(ALL, 5, {"a": 1})], statements=[(5, 10)])
        read = age_read(2)
        self.assertEqual(len(host.ask(read, 13, {})[0]), 2)
        self.assertEqual(host.nudge(12, {}), ([], [told(read, [1], 5, [("at", 10, 5)])]))

    def test_leases_that_were_granted_stay(self):
        host = host_with([(ALL, 5, {})])
        host.handle(leased(host.open_lease(A)[3], 3, 20, 5, 0, A), 0, {})
        host.nudge(0, {})
        self.assertEqual(host.leases(), {3: (A, 20, 5)})


class Writes(unittest.TestCase):
    """Points 48 and 49: a write is sent and opened, and nothing else happens."""

    def test_a_write(self):
        host = Host(1, 400, 0)
        letter = ("write", 1, 0, 0, (("a", 1), ("b", None)))
        self.assertEqual(host.write("s", (("a", 1), ("b", None))), ([letter], []))
        self.assertEqual(host.requests(), {0: letter})

    def test_a_write_answers_and_asks_for_nothing(self):
        host = host_with([(ALL, 5, {"a": 1})])
        host.ask(any_read(0), 0, {"s": 9})
        host.handle(answer(1, {"a": 1}, 5, 0, A), 0, {"s": 9})
        before = host_state(host)
        self.assertEqual(host.write("s", put("a", 2)), ([("write", 0, 0, 2, put("a", 2))], []))
        self.assertEqual(host_state(host)[:6], before[:6])

    def test_each_write_has_its_own_session(self):
        host = Host(0, 400, 0)
        host.write("s", put("a", 1))
        host.write("t", put("b", 1))
        self.assertEqual(host.handle(written(1, 1, 0), 0, {})[1], [("written", "t", 1, 1)])
        self.assertEqual(host.handle(written(0, 2, 0), 0, {})[1], [("written", "s", 0, 2)])


class GivingUp(unittest.TestCase):
    """Point 50."""

    def test_a_read_that_waits(self):
        host = Host(0, 400, 0)
        reads = [any_read(3), newest_read(1), age_read(4, 2)]
        for read in reads:
            host.ask(read, 0, {})
        requests = host.requests()
        self.assertEqual(host.give_up(1), reads[1])
        self.assertEqual(host.waiting(), [reads[0], reads[2]])
        self.assertEqual(host.requests(), requests)
        self.assertEqual(host.give_up(3), reads[0])
        events = host.handle(answer(0, {"a": 1}, 1, 0, A), 0, {})[1]
        self.assertEqual(events, [told(reads[2], [1], 1, [("at", 0, 1)])])

    def test_a_read_that_does_not_wait(self):
        host = Host(0, 400, 0)
        host.ask(any_read(3), 0, {})
        for number in [0, 2, 4, -1]:
            with self.assertRaises(NotFound):
                host.give_up(number)
        self.assertEqual(host.waiting(), [any_read(3)])
        host.give_up(3)
        with self.assertRaises(NotFound):
            host.give_up(3)

    def test_a_read_that_was_answered_or_lost_by_a_fall(self):
        host = host_with([(ALL, 5, {"a": 1})])
        host.ask(any_read(0), 0, {})
        with self.assertRaises(NotFound):
            host.give_up(0)
        host.ask(any_read(1), 0, {"s": 9})
        host.fall()
        with self.assertRaises(NotFound):
            host.give_up(1)


class Requests(unittest.TestCase):
    def test_open_fetch_and_open_lease(self):
        host = Host(2, 400, 0)
        self.assertEqual(host.open_fetch(("a", "c")), fetch(0, ("a", "c"), 2))
        self.assertEqual(host.open_lease(("d", "b")), lease(1, ("d", "b"), 2))
        self.assertEqual(host.open_fetch(("a", "c")), fetch(2, ("a", "c"), 2))
        self.assertEqual(list(host.requests()), [0, 1, 2])
        self.assertEqual(host.requests()[2], fetch(2, ("a", "c"), 2))


if __name__ == "__main__":
    unittest.main()
