"""Points 11 to 14: settling, beats, falls and what leases guarantee."""

import unittest

from leasehall.errors import IsDown, IsUp
from leasehall.ledger import at
from leasehall.records import ask, touches
from leasehall.store import Store
from samples import run_store, seeded
from store_letters import A, AB, B, C, committed, fetch, give_back, lease, missing, state, write


class Settling(unittest.TestCase):
    """Point 11."""

    def test_nothing_to_settle(self):
        store = Store(2, 10)
        self.assertEqual(store.settle(0), [])
        store.handle(write(A), 1)
        self.assertEqual(store.settle(50), [])

    def test_a_lease_holds_until_it_ends(self):
        store = Store(2, 10)
        store.handle(lease(("a", "a")), 3)
        store.handle(write(A, 1), 4)
        for time in [4, 12]:
            self.assertEqual(store.settle(time), [])
        self.assertEqual(store.settle(13), committed(2, write(A, 1), 1, 13))
        self.assertEqual(store.ledger(), [(13, A)])
        self.assertEqual(store.pending(), [])

    def test_several_in_order(self):
        store = Store(2, 10)
        store.handle(lease(("a", "a")), 0)
        letters = [write(A, 1), write(B, 0, 1), write(C, 2)]
        for letter in letters:
            store.handle(letter, 1)
        expected = []
        for moment, letter in enumerate(letters, start=1):
            expected.extend(committed(2, letter, moment, 15))
        self.assertEqual(store.settle(15), expected)
        self.assertEqual(store.ledger(), [(15, A), (15, B), (15, C)])

    def test_the_first_one_keeps_the_others_waiting(self):
        store = Store(1, 10)
        store.handle(lease(("a", "a")), 0)
        store.handle(write(A, 1), 1)
        self.assertEqual(store.handle(write(C, 2), 1), [])
        self.assertEqual(store.settle(9), [])
        self.assertEqual(store.pending(), [(0, 0, 1, A), (0, 0, 2, C)])

    def test_stops_at_the_next_one_that_is_held(self):
        store = Store(1, 10)
        store.handle(lease(("a", "a"), 0), 0)
        store.handle(lease(("b", "b"), 1), 4)
        for number, group in enumerate([A, C, AB, C], start=2):
            store.handle(write(group, number), 5)
        letters = committed(1, write(A, 2), 1, 10) + committed(1, write(C, 3), 2, 10)
        self.assertEqual(store.settle(10), letters)
        self.assertEqual(store.pending(), [(0, 0, 4, AB), (0, 0, 5, C)])
        letters = committed(1, write(AB, 4), 3, 14) + committed(1, write(C, 5), 4, 14)
        self.assertEqual(store.settle(14), letters)

    def test_the_moment_of_a_settled_write_is_in_the_table(self):
        store = Store(1, 10)
        store.handle(lease(("a", "a"), 0), 0)
        store.handle(write(A, 1), 5)
        store.settle(12)
        self.assertEqual(store.handle(write(A, 1), 20), [("written", 0, 0, 1, 1, 12)])

    def test_full_ledger(self):
        store = Store(2, 10)
        for number in range(199):
            store.handle(write(A, number), number)
        last = write(B, 199)
        self.assertEqual(store.handle(last, 300), committed(2, last, 200, 300))
        self.assertEqual(store.handle(write(C, 200), 301), [])
        self.assertEqual(store.handle(write(C, 201), 301), [])
        self.assertEqual(store.settle(400), [])
        self.assertEqual(store.moment(), 200)
        self.assertEqual(len(store.ledger()), 200)
        self.assertEqual(store.pending(), [(0, 0, 200, C), (0, 0, 201, C)])
        self.assertEqual(store.handle(write(B, 199), 401), [("written", 0, 0, 199, 200, 300)])
        self.assertEqual(store.handle(lease(("c", "c"), 5), 401), [("denied", 0, 0, 5)])

    def test_ledger_becomes_full_while_settling(self):
        store = Store(1, 10)
        for number in range(198):
            store.handle(write(B, number), 0)
        store.handle(lease(("a", "a"), 198), 0)
        for number in range(200, 204):
            store.handle(write(A, number), 1)
        letters = committed(1, write(A, 200), 199, 10) + committed(1, write(A, 201), 200, 10)
        self.assertEqual(store.settle(10), letters)
        self.assertEqual(store.pending(), [(0, 0, 202, A), (0, 0, 203, A)])


class Beats(unittest.TestCase):
    """Point 12."""

    def test_beats_to_each_host_in_order(self):
        store = Store(3, 10)
        self.assertEqual(store.beat(0), [("beat", host, 0, 0) for host in range(3)])
        store.handle(write(A), 2)
        self.assertEqual(store.beat(7), [("beat", host, 7, 1) for host in range(3)])

    def test_recalls_after_the_beats(self):
        store = Store(2, 10)
        store.handle(lease(("b", "b"), 0, 1, 6), 0)
        store.handle(lease(("d", "d"), 0, 0), 0)
        store.handle(lease(("a", "b"), 1, 0), 2)
        store.handle(write(A, 2), 3)
        store.handle(write(AB, 3), 3)
        beats = [("beat", 0, 4, 0), ("beat", 1, 4, 0)]
        recalls = [("recall", 1, 6, 0), ("recall", 0, 0, 2)]
        self.assertEqual(store.beat(4), beats + recalls)
        beats = [("beat", 0, 10, 0), ("beat", 1, 10, 0)]
        self.assertEqual(store.beat(10), beats + [("recall", 0, 0, 2)])

    def test_no_recalls_for_returned_leases(self):
        store = Store(1, 10)
        store.handle(lease(("a", "a"), 0), 0)
        store.handle(lease(("a", "a"), 1), 0)
        store.handle(write(A, 2), 0)
        store.handle(give_back(0), 0)
        self.assertEqual(store.beat(1), [("beat", 0, 1, 0), ("recall", 0, 0, 1)])

    def test_does_not_settle(self):
        store = Store(1, 10)
        store.handle(lease(("a", "a"), 0), 0)
        store.handle(write(A, 1), 0)
        before = state(store)
        self.assertEqual(store.beat(30), [("beat", 0, 30, 0)])
        self.assertEqual(state(store), before)


class Falls(unittest.TestCase):
    """Point 13."""

    def setUp(self):
        self.store = Store(2, 10)
        self.store.handle(write(C, 0), 0)
        self.store.handle(lease(("a", "a"), 1), 0)
        self.store.handle(lease(("b", "b"), 2), 0)
        self.store.handle(give_back(1), 1)
        self.store.handle(write(A, 3), 1)

    def test_what_is_lost_and_what_stays(self):
        ledger, leases = self.store.ledger(), self.store.leases()
        self.assertEqual(len(self.store.pending()), 1)
        self.store.fall()
        for is_up in [False, True]:
            self.assertIs(self.store.is_up(), is_up)
            self.assertEqual(self.store.ledger(), ledger)
            self.assertEqual(self.store.leases(), leases)
            self.assertEqual(self.store.pending(), [])
            self.assertEqual(self.store.moment(), 1)
            if not is_up:
                self.assertEqual(self.store.rise(2), [])
        self.assertEqual(self.store.handle(write(C, 0), 3), [("written", 0, 0, 0, 1, 0)])
        leased = ("leased", 0, 0, 1, 0, ("a", "a"), 10, 1, 0)
        self.assertEqual(self.store.handle(lease(("a", "a"), 1), 3), [leased])

    def test_a_lost_write_comes_again(self):
        self.store.fall()
        self.store.rise(2)
        self.assertEqual(self.store.handle(write(A, 3), 3), [("recall", 0, 0, 0)])
        self.assertEqual(self.store.pending(), [(0, 0, 3, A)])

    def test_a_lost_write_no_longer_denies(self):
        self.store.fall()
        self.store.rise(2)
        self.assertEqual(self.store.handle(lease(("a", "a"), 4), 3)[0][0], "leased")

    def test_leases_hold_after_a_rise(self):
        self.store.fall()
        self.store.rise(2)
        self.store.handle(write(A, 3), 9)
        self.assertEqual(self.store.settle(9), [])
        self.assertEqual(self.store.settle(10), committed(2, write(A, 3), 2, 10))

    def test_down(self):
        self.store.fall()
        before = state(self.store)
        letters = [
            fetch(("get", "a"), 5),
            write(B, 6),
            write(C, 0),
            lease(("c", "c"), 7),
            lease(("a", "a"), 1),
            give_back(0),
            missing(1),
        ]
        for letter in letters:
            self.assertEqual(self.store.handle(letter, 4), [])
        self.assertEqual(self.store.settle(20), [])
        self.assertEqual(self.store.beat(20), [])
        self.assertEqual(state(self.store), before)

    def test_errors_change_nothing(self):
        before = state(self.store)
        with self.assertRaises(IsUp):
            self.store.rise(30)
        self.assertEqual(state(self.store), before)
        self.store.fall()
        before = state(self.store)
        with self.assertRaises(IsDown):
            self.store.fall()
        self.assertEqual(state(self.store), before)
        self.store.rise(30)
        with self.assertRaises(IsUp):
            self.store.rise(30)
        self.store.fall()
        self.assertIs(self.store.is_up(), False)


class Guarantee(unittest.TestCase):
    """Point 14."""

    def test_no_commit_touches_an_active_lease(self):
        held, waited = 0, 0
        for seed in range(40):
            seen = 0
            for store, time, _ in run_store(seeded(seed), 150):
                # A lease that is active after a step was active while it
                # lasted, because leases only end and are only returned.
                active = [told for told in store.leases() if not told[7] and time < told[4]]
                new = store.ledger()[seen:]
                for number, (_, group) in enumerate(new, start=seen + 1):
                    for told in active:
                        if number > told[5]:
                            self.assertFalse(touches(group, told[3]))
                            held += 1
                waited += len(store.pending()) > 0
                seen = store.moment()
        self.assertGreater(held, 500)
        self.assertGreater(waited, 500)

    def test_answers_stay_the_same(self):
        chance = seeded(14)
        compared = 0
        for seed in range(10):
            for store, time, _ in run_store(seeded(100 + seed), 120):
                ledger = store.ledger()
                for told in store.leases():
                    if not told[7] and time < told[4]:
                        word = chance.choice(["count", "sum", "list", "least"])
                        question = (word,) + told[3]
                        then = ask(at(ledger, told[5]), question)
                        self.assertEqual(ask(at(ledger, store.moment()), question), then)
                        compared += 1
        self.assertGreater(compared, 200)

    def test_no_commit_between_grant_and_end(self):
        checked = 0
        for seed in range(80):
            for store, _, returned_at in run_store(seeded(200 + seed), 150):
                pass
            for index, told in enumerate(store.leases()):
                _, _, _, cover, until, moment, time, _ = told
                # Commits of the step of the return come after the return.
                ended = min(until, returned_at.get(index, (until, 0))[0])
                for number, (then, group) in enumerate(store.ledger(), start=1):
                    if number > moment and then < ended:
                        self.assertFalse(touches(group, cover))
                        checked += 1
        self.assertGreater(checked, 500)


if __name__ == "__main__":
    unittest.main()
