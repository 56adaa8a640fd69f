"""Points 9 and 10: what the store holds and how it handles letters."""

import unittest

from leasehall.store import Store
from store_letters import (
    A,
    AB,
    B,
    C,
    NO_A,
    committed,
    fetch,
    give_back,
    lease,
    missing,
    notes,
    state,
    write,
)


class NewStore(unittest.TestCase):
    def test_new_store(self):
        store = Store(3, 10)
        self.assertIs(store.is_up(), True)
        self.assertEqual(store.moment(), 0)
        self.assertEqual(store.ledger(), [])
        self.assertEqual(store.pending(), [])
        self.assertEqual(store.leases(), [])

    def test_returned_lists_are_new(self):
        store = Store(1, 10)
        store.handle(write(A), 0)
        store.handle(lease(("a", "a"), 1), 0)
        store.handle(write(A, 2), 0)
        for method in [store.ledger, store.pending, store.leases]:
            told = method()
            self.assertEqual(len(told), 1)
            told.clear()
            self.assertEqual(len(method()), 1)
        letters = store.handle(lease(("a", "a"), 1), 0)
        letters.clear()
        self.assertEqual(len(store.handle(lease(("a", "a"), 1), 0)), 1)


class Fetches(unittest.TestCase):
    def test_answer_at_the_present_moment(self):
        store = Store(2, 10)
        question = ("list", "a", "z")
        empty = ("answer", 1, 4, 9, question, (), 0, 5)
        self.assertEqual(store.handle(fetch(question, 9, 1, 4), 5), [empty])
        store.handle(write(AB), 6)
        answer = ("answer", 1, 4, 9, question, (("a", 7), ("b", 8)), 1, 8)
        self.assertEqual(store.handle(fetch(question, 9, 1, 4), 8), [answer])
        store.handle(write(NO_A, 1), 8)
        answer = ("answer", 0, 0, 2, ("get", "a"), None, 2, 8)
        self.assertEqual(store.handle(fetch(("get", "a"), 2), 8), [answer])

    def test_each_kind_of_question(self):
        store = Store(1, 10)
        store.handle(write(AB), 0)
        expected = {
            ("get", "b"): 8,
            ("count", "a", "c"): 2,
            ("sum", "a", "c"): 15,
            ("list", "b", "c"): (("b", 8),),
            ("least", "a", "c"): ("a", 7),
            ("least", "c", "a"): None,
        }
        for question, result in expected.items():
            answer = ("answer", 0, 0, 3, question, result, 1, 4)
            self.assertEqual(store.handle(fetch(question, 3), 4), [answer])

    def test_pending_writes_are_not_seen(self):
        store = Store(1, 10)
        store.handle(lease(("a", "a")), 0)
        store.handle(write(A, 1), 0)
        answer = ("answer", 0, 0, 2, ("get", "a"), None, 0, 1)
        self.assertEqual(store.handle(fetch(("get", "a"), 2), 1), [answer])

    def test_nothing_changes(self):
        store = Store(1, 10)
        before = state(store)
        store.handle(fetch(("get", "a")), 0)
        self.assertEqual(state(store), before)


class Writes(unittest.TestCase):
    def test_commits_at_once(self):
        store = Store(3, 10)
        letter = write(A, 5, 2, 1)
        self.assertEqual(store.handle(letter, 4), committed(3, letter, 1, 4))
        self.assertEqual(store.ledger(), [(4, A)])
        self.assertEqual(store.pending(), [])
        self.assertEqual(store.moment(), 1)

    def test_written_again(self):
        store = Store(2, 10)
        store.handle(write(A, 0), 4)
        store.handle(write(B, 1), 6)
        for time in [6, 9]:
            self.assertEqual(store.handle(write(A, 0), time), [("written", 0, 0, 0, 1, 4)])
            self.assertEqual(store.handle(write(B, 1), time), [("written", 0, 0, 1, 2, 6)])
        self.assertEqual(store.ledger(), [(4, A), (6, B)])

    def test_written_again_to_the_host_that_asked(self):
        store = Store(3, 10)
        letter = write(A, 7, 2, 5)
        self.assertEqual(store.handle(letter, 3)[0], ("written", 2, 5, 7, 1, 3))
        self.assertEqual(store.handle(letter, 4), [("written", 2, 5, 7, 1, 3)])

    def test_requests_differ_by_each_of_their_parts(self):
        store = Store(2, 10)
        requests = [(0, 0, 0), (1, 0, 0), (0, 1, 0), (0, 0, 1)]
        for moment, (host, incarnation, number) in enumerate(requests, start=1):
            letter = write(A, number, host, incarnation)
            self.assertEqual(store.handle(letter, 0), committed(2, letter, moment, 0))

    def test_pending_again(self):
        store = Store(2, 10)
        store.handle(lease(("a", "a"), 0, 1), 0)
        self.assertEqual(store.handle(write(A), 1), [("recall", 1, 0, 0)])
        before = state(store)
        for time in [1, 5, 10]:
            self.assertEqual(store.handle(write(A), time), [])
            self.assertEqual(state(store), before)
        self.assertEqual(store.pending(), [(0, 0, 0, A)])

    def test_pending_again_while_another_one_is_settled(self):
        # A repeated request neither recalls nor settles, though it could.
        store = Store(1, 10)
        store.handle(lease(("a", "a"), 0), 0)
        store.handle(write(A, 1), 1)
        self.assertEqual(store.handle(write(A, 1), 20), [])
        self.assertEqual(store.moment(), 0)
        self.assertEqual(store.settle(20), committed(1, write(A, 1), 1, 20))

    def test_written_again_does_not_settle(self):
        store = Store(1, 10)
        store.handle(write(B, 0), 0)
        store.handle(lease(("a", "a"), 1), 0)
        store.handle(write(A, 2), 0)
        self.assertEqual(store.handle(write(B, 0), 30), [("written", 0, 0, 0, 1, 0)])
        self.assertEqual(store.pending(), [(0, 0, 2, A)])

    def test_recalls_by_ascending_numbers(self):
        store = Store(3, 10)
        store.handle(lease(("a", "b"), 0, 2, 5), 0)
        store.handle(lease(("c", "z"), 0, 1), 0)
        store.handle(lease(("b", "b"), 1, 1), 0)
        store.handle(lease(("z", "a"), 2, 1), 0)
        store.handle(lease(("a", "a"), 0, 0), 0)
        recalls = [("recall", 2, 5, 0), ("recall", 1, 0, 2), ("recall", 0, 0, 4)]
        self.assertEqual(store.handle(write(AB, 9), 3), recalls)
        self.assertEqual(store.moment(), 0)

    def test_leases_that_are_not_active_are_not_recalled(self):
        store = Store(1, 5)
        store.handle(lease(("a", "a"), 0), 0)
        store.handle(lease(("a", "a"), 1), 1)
        store.handle(lease(("a", "a"), 2), 1)
        store.handle(give_back(1), 2)
        self.assertEqual(store.handle(write(A, 3), 5), [("recall", 0, 0, 2)])

    def test_only_the_new_write_recalls(self):
        store = Store(1, 10)
        store.handle(lease(("a", "a"), 0), 0)
        store.handle(lease(("b", "b"), 1), 0)
        self.assertEqual(store.handle(write(A, 2), 0), [("recall", 0, 0, 0)])
        self.assertEqual(store.handle(write(B, 3), 0), [("recall", 0, 0, 1)])
        self.assertEqual(store.handle(write(C, 4), 0), [])
        self.assertEqual([item[2] for item in store.pending()], [2, 3, 4])

    def test_recalls_come_before_what_is_settled(self):
        store = Store(2, 10)
        store.handle(lease(("a", "a"), 0), 0)
        store.handle(lease(("b", "b"), 1), 5)
        first = write(A, 2, 1)
        store.handle(first, 6)
        second = write(AB, 3)
        letters = [("recall", 0, 0, 1)] + committed(2, first, 1, 10)
        self.assertEqual(store.handle(second, 10), letters)
        self.assertEqual(store.pending(), [(0, 0, 3, AB)])


class Leases(unittest.TestCase):
    def test_grant(self):
        store = Store(2, 7)
        store.handle(write(C), 2)
        letter = lease(("a", "b"), 4, 1, 3)
        leased = ("leased", 1, 3, 4, 0, ("a", "b"), 12, 1, 5)
        self.assertEqual(store.handle(letter, 5), [leased])
        self.assertEqual(store.leases(), [(1, 3, 4, ("a", "b"), 12, 1, 5, False)])

    def test_numbers_are_indexes(self):
        store = Store(1, 7)
        for number in range(3):
            letter = store.handle(lease(("a", "a"), 10 + number), number)[0]
            self.assertEqual(letter[3:6], (10 + number, number, ("a", "a")))

    def test_several_leases_of_one_cover(self):
        store = Store(2, 7)
        for host in range(2):
            self.assertEqual(store.handle(lease(("a", "z"), 0, host), 0)[0][0], "leased")
        self.assertEqual(len(store.leases()), 2)

    def test_the_same_request_again(self):
        store = Store(1, 7)
        letters = store.handle(lease(("a", "a")), 1)
        store.handle(write(B, 1), 2)
        self.assertEqual(store.handle(lease(("a", "a")), 3), letters)
        store.handle(write(A, 2), 3)
        self.assertEqual(store.handle(lease(("a", "a")), 4), letters)
        store.handle(give_back(0), 5)
        self.assertEqual(store.handle(lease(("a", "a")), 6), letters)
        self.assertEqual(store.handle(lease(("a", "a")), 60), letters)
        self.assertEqual(store.leases(), [(0, 0, 0, ("a", "a"), 8, 0, 1, True)])

    def test_requests_differ_by_each_of_their_parts(self):
        store = Store(2, 7)
        requests = [(0, 0, 0), (1, 0, 0), (0, 1, 0), (0, 0, 1)]
        for host, incarnation, number in requests:
            store.handle(lease(("a", "a"), number, host, incarnation), 0)
        self.assertEqual([item[:3] for item in store.leases()], requests)

    def test_denied_while_a_pending_write_touches_the_cover(self):
        store = Store(2, 7)
        store.handle(lease(("a", "a")), 0)
        store.handle(write(A, 1), 1)
        store.handle(write(B, 2), 1)
        for key in ["a", "b"]:
            letter = lease((key, key), 5, 1, 2)
            self.assertEqual(store.handle(letter, 2), [("denied", 1, 2, 5)])
        self.assertEqual(store.handle(lease(("a", "z"), 6), 2), [("denied", 0, 0, 6)])
        self.assertEqual(len(store.leases()), 1)
        for number, cover in enumerate([("c", "z"), ("aa", "az"), ("b", "a")]):
            self.assertEqual(store.handle(lease(cover, 7 + number), 2)[0][0], "leased")

    def test_denied_then_granted(self):
        store = Store(1, 7)
        store.handle(lease(("a", "a")), 0)
        store.handle(write(A, 1), 1)
        self.assertEqual(store.handle(lease(("a", "a"), 2), 1), [("denied", 0, 0, 2)])
        store.handle(give_back(0), 2)
        leased = ("leased", 0, 0, 2, 1, ("a", "a"), 10, 1, 3)
        self.assertEqual(store.handle(lease(("a", "a"), 2), 3), [leased])

    def test_leasing_does_not_settle(self):
        store = Store(1, 7)
        store.handle(lease(("a", "a")), 0)
        store.handle(write(A, 1), 1)
        self.assertEqual(store.handle(lease(("a", "a"), 2), 7), [("denied", 0, 0, 2)])
        self.assertEqual(store.handle(fetch(("get", "a"), 3), 7)[0][0], "answer")
        self.assertEqual(store.handle(missing(1), 7), [])
        self.assertEqual(store.moment(), 0)


class Returns(unittest.TestCase):
    def setUp(self):
        self.store = Store(2, 10)
        self.store.handle(lease(("a", "a"), 0, 1, 3), 0)
        self.store.handle(write(A), 1)

    def flags(self):
        return [item[7] for item in self.store.leases()]

    def test_settles(self):
        letters = self.store.handle(give_back(0, 1, 3), 4)
        self.assertEqual(letters, committed(2, write(A), 1, 4))
        self.assertEqual(self.store.leases(), [(1, 3, 0, ("a", "a"), 10, 0, 0, True)])
        self.assertEqual(self.store.ledger(), [(4, A)])

    def test_of_another_host_or_incarnation(self):
        for host, incarnation in [(0, 3), (1, 2), (1, 4), (0, 0)]:
            self.assertEqual(self.store.handle(give_back(0, host, incarnation), 30), [])
        self.assertEqual(self.flags(), [False])
        self.assertEqual(self.store.moment(), 0)

    def test_of_no_lease(self):
        for index in [-2, -1, 1, 2, 1000]:
            self.assertEqual(self.store.handle(give_back(index, 1, 3), 30), [])
        self.assertEqual(self.flags(), [False])
        self.assertEqual(self.store.moment(), 0)

    def test_of_a_lease_that_has_ended(self):
        letters = self.store.handle(give_back(0, 1, 3), 10)
        self.assertEqual(letters, committed(2, write(A), 1, 10))
        self.assertEqual(self.flags(), [True])

    def test_twice(self):
        self.store.handle(give_back(0, 1, 3), 2)
        before = state(self.store)
        self.assertEqual(self.store.handle(give_back(0, 1, 3), 3), [])
        self.assertEqual(state(self.store), before)

    def test_twice_settles_again(self):
        self.store.handle(lease(("b", "b"), 1, 1, 3), 1)
        self.store.handle(give_back(0, 1, 3), 2)
        self.store.handle(write(B, 1), 3)
        letters = self.store.handle(give_back(0, 1, 3), 11)
        self.assertEqual(letters, committed(2, write(B, 1), 2, 11))

    def test_another_lease_still_holds(self):
        self.store.handle(lease(("b", "c"), 1, 0), 1)
        self.store.handle(write(AB, 1), 1)
        letters = self.store.handle(give_back(0, 1, 3), 2)
        self.assertEqual(letters, committed(2, write(A), 1, 2))
        self.assertEqual(self.store.pending(), [(0, 0, 1, AB)])


class Missing(unittest.TestCase):
    def setUp(self):
        self.store = Store(3, 10)
        for number, group in enumerate([A, B, C]):
            self.store.handle(write(group, number), 2 * number)
        self.notes = [("note", 2, 1, 0, A), ("note", 2, 2, 2, B), ("note", 2, 3, 4, C)]

    def test_from_each_commit(self):
        for first in [1, 2, 3]:
            letters = self.store.handle(missing(first, 2, 7), 9)
            self.assertEqual(letters, self.notes[first - 1 :])

    def test_from_below_the_first_commit(self):
        for first in [0, -1, -3, -100]:
            self.assertEqual(self.store.handle(missing(first, 2), 9), [])

    def test_from_beyond_the_end(self):
        for first in [4, 5, 1000]:
            self.assertEqual(self.store.handle(missing(first, 2), 9), [])
        self.assertEqual(Store(1, 5).handle(missing(1), 0), [])

    def test_only_the_host_that_asks(self):
        letters = self.store.handle(missing(3, 0), 9)
        self.assertEqual(letters, notes(1, 3, 4, C))


if __name__ == "__main__":
    unittest.main()
