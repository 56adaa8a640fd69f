"""Points 34 to 36."""

import unittest

from leasehall.checker import accepts, is_true
from leasehall.promises import is_right, results
from leasehall.store import Store
from samples import run_store, seeded, some_question
from store_letters import give_back, lease

LEDGER = [
    (2, (("a", 1),)),
    (4, (("b", 2),)),
    (4, (("c", 3),)),
    (9, (("a", 5),)),
]
GET_A = ("get", "a")
ANY = ("any",)
NEWEST = ("newest",)


def a_lease(cover, until=30, moment=4, is_returned=False):
    return (0, 0, 0, cover, until, moment, 10, is_returned)


def read(promise, *questions):
    return (0, "s", list(questions), promise)


class At(unittest.TestCase):
    """Point 34: the first statement."""

    def told(self, then, moment, time=20, ledger=LEDGER):
        return is_true(ledger, [], time, ("at", then, moment))

    def test_each_time_and_moment(self):
        # At the time of a commit the ledger had the moments before and after.
        expected = {0: [0], 1: [0], 2: [0, 1], 3: [1], 4: [1, 2, 3], 5: [3], 8: [3], 9: [3, 4]}
        expected.update({10: [4], 20: [4]})
        for then, moments in expected.items():
            for moment in range(-6, 9):
                self.assertIs(self.told(then, moment), moment in moments, (then, moment))

    def test_times_from_the_statement_on(self):
        for time in [9, 10, 1000]:
            self.assertIs(self.told(9, 4, time), True)
        for time in [0, 7, 8]:
            self.assertIs(self.told(9, 4, time, LEDGER), False)
            self.assertIs(self.told(9, 0, time, []), False)

    def test_empty_ledger(self):
        self.assertIs(self.told(0, 0, 0, []), True)
        self.assertIs(self.told(5, 0, 5, []), True)
        self.assertIs(self.told(5, 1, 5, []), False)
        self.assertIs(self.told(5, -1, 5, []), False)

    def test_large_numbers(self):
        self.assertIs(self.told(20, 10**30), False)
        self.assertIs(self.told(20, -(10**30)), False)
        self.assertIs(self.told(10**30, 4), False)


class LeaseStatements(unittest.TestCase):
    """Point 34: the second statement, and statements of no form."""

    leases = [a_lease(("a", "a")), a_lease(("b", "b"), until=12), a_lease(("c", "c"), 30, 4, True)]

    def test_active(self):
        for time, active in [(10, [0, 1]), (11, [0, 1]), (12, [0]), (29, [0]), (30, []), (31, [])]:
            for index in range(3):
                told = is_true(LEDGER, self.leases, time, ("lease", index))
                self.assertIs(told, index in active, (time, index))

    def test_no_such_lease(self):
        for index in [-1000, -3, -2, -1, 3, 4, 1000]:
            self.assertIs(is_true(LEDGER, self.leases, 11, ("lease", index)), False)
            active = [self.leases[0]] * 3
            self.assertIs(is_true(LEDGER, active, 11, ("lease", index)), False)
        self.assertIs(is_true(LEDGER, [], 11, ("lease", 0)), False)

    def test_of_a_store(self):
        store = Store(1, 5)
        store.handle(lease(("a", "a")), 2)
        self.assertIs(is_true([], store.leases(), 6, ("lease", 0)), True)
        self.assertIs(is_true([], store.leases(), 7, ("lease", 0)), False)
        store.handle(give_back(0), 3)
        self.assertIs(is_true([], store.leases(), 4, ("lease", 0)), False)

    def test_other_forms(self):
        true = [("at", 20, 4), ("lease", 0)]
        for statement in true:
            self.assertIs(is_true(LEDGER, self.leases, 20, statement), True)
        false = [
            ("at",),
            ("at", 20),
            ("at", 0),
            ("at", 20, 4, 0),
            ("at", 20, 4, 4),
            ("lease",),
            ("lease", 0, 0),
            ("lease", 20, 4),
            ("",),
            ("", 0),
            ("At", 20, 4),
            ("Lease", 0),
            ("lease ", 0),
            ("leased", 0),
            ("beat", 20, 4),
            ("any",),
        ]
        for statement in false:
            self.assertIs(is_true(LEDGER, self.leases, 20, statement), False, statement)


class Accepting(unittest.TestCase):
    """Point 35."""

    leases = [
        a_lease(("a", "c")),
        a_lease(("a", "a"), moment=3),
        a_lease(("b", "d")),
        a_lease(("a", "z"), until=15),
        a_lease(("a", "z"), is_returned=True),
        a_lease(("c", "b")),
    ]

    def told(self, promise, evidence, moment=4, questions=(GET_A,), time=15, floor=0, given=()):
        """Tell what the checker says; without results, of the true ones."""
        questions = list(questions)
        if given == ():
            given = results(LEDGER, questions, moment)
        answer = (given, moment, evidence)
        return accepts(LEDGER, self.leases, time, floor, read(promise, *questions), answer)

    def test_any(self):
        for moment in range(5):
            self.assertIs(self.told(ANY, [], moment), True)
        for evidence in [[("at", 15, 4)], [("lease", 0)], [("x",)], [("at", 15, 4)] * 2]:
            self.assertIs(self.told(ANY, evidence), False, evidence)

    def test_age(self):
        self.assertIs(self.told(("age", 5), [("at", 10, 4)]), True)
        self.assertIs(self.told(("age", 0), [("at", 15, 4)]), True)
        self.assertIs(self.told(("age", 200), [("at", 0, 0)]), True)

    def test_age_needs_one_statement_of_its_kind(self):
        good = ("at", 15, 4)
        wrong = [
            [],
            [good, good],
            [("lease", 0)],
            [good, ("lease", 0)],
            [("lease", 0), good],
            [("at", 15)],
            [("at", 15, 4, 4)],
            [("x", 15, 4)],
        ]
        for evidence in wrong:
            self.assertIs(self.told(("age", 5), evidence), False, evidence)

    def test_age_needs_a_true_statement(self):
        for statement in [("at", 15, 3), ("at", 15, 5), ("at", 15, -1), ("at", 16, 4)]:
            self.assertIs(self.told(("age", 100), [statement]), False, statement)

    def test_age_statement_is_not_after_the_moment(self):
        self.assertIs(self.told(("age", 11), [("at", 4, 3)], 3), True)
        self.assertIs(self.told(("age", 11), [("at", 4, 2)], 3), True)
        self.assertIs(self.told(("age", 11), [("at", 4, 1)], 3), True)
        self.assertIs(self.told(("age", 11), [("at", 4, 3)], 2), False)
        self.assertIs(self.told(("age", 11), [("at", 15, 4)], 3), False)

    def test_age_statement_is_not_too_old(self):
        self.assertIs(self.told(("age", 5), [("at", 10, 4)]), True)
        self.assertIs(self.told(("age", 4), [("at", 10, 4)]), False)
        self.assertIs(self.told(("age", 10), [("at", 5, 3)], 3), True)
        self.assertIs(self.told(("age", 10), [("at", 4, 3)], 3), False)

    def test_newest(self):
        self.assertIs(self.told(NEWEST, [("lease", 0)], time=14), True)
        self.assertIs(self.told(NEWEST, [("lease", 1)], time=14), True)
        both = [GET_A, ("sum", "b", "c")]
        for evidence in [[0, 0], [1, 0], [1, 2], [3, 0], [3, 3]]:
            statements = [("lease", index) for index in evidence]
            self.assertIs(self.told(NEWEST, statements, 4, both, 14), True, evidence)

    def test_newest_needs_a_lease_for_each_question(self):
        both = [GET_A, GET_A]
        good = ("lease", 0)
        self.assertIs(self.told(NEWEST, [good, good], 4, both), True)
        for evidence in [[], [good], [good] * 3, [good, ("at", 15, 4)], [("at", 15, 4), good]]:
            self.assertIs(self.told(NEWEST, evidence, 4, both), False, evidence)
        for evidence in [[], [good] * 2, [("at", 15, 4)], [("lease",)], [("lease", 0, 0)]]:
            self.assertIs(self.told(NEWEST, evidence), False, evidence)

    def test_newest_needs_active_leases(self):
        self.assertIs(self.told(NEWEST, [("lease", 3)], time=14), True)
        self.assertIs(self.told(NEWEST, [("lease", 3)], time=15), False)
        self.assertIs(self.told(NEWEST, [("lease", 4)]), False)
        for index in [-6, -5, -1, 6, 100]:
            self.assertIs(self.told(NEWEST, [("lease", index)]), False, index)
            self.assertIs(self.told(NEWEST, [("lease", index)], 4, [("sum", "z", "a")]), False)
        both = [GET_A, GET_A]
        self.assertIs(self.told(NEWEST, [("lease", 0), ("lease", 3)], 4, both), False)
        self.assertIs(self.told(NEWEST, [("lease", 4), ("lease", 0)], 4, both), False)

    def test_newest_needs_covering_leases_in_order(self):
        self.assertIs(self.told(NEWEST, [("lease", 2)]), False)
        self.assertIs(self.told(NEWEST, [("lease", 5)]), False)
        self.assertIs(self.told(NEWEST, [("lease", 1)], 4, [("sum", "a", "b")]), False)
        self.assertIs(self.told(NEWEST, [("lease", 0)], 4, [("sum", "a", "c")]), True)
        self.assertIs(self.told(NEWEST, [("lease", 0)], 4, [("sum", "a", "ca")]), False)
        self.assertIs(self.told(NEWEST, [("lease", 5)], 4, [("sum", "z", "a")]), True)
        both = [GET_A, ("get", "d")]
        self.assertIs(self.told(NEWEST, [("lease", 1), ("lease", 2)], 4, both), True)
        self.assertIs(self.told(NEWEST, [("lease", 2), ("lease", 1)], 4, both), False)

    def test_newest_needs_leases_granted_by_the_moment(self):
        e = [("get", "z")]
        leases = [a_lease(("a", "z"), moment=3)]
        for moment in range(5):
            answer = ([None], moment, [("lease", 0)])
            told = accepts(LEDGER, leases, 15, 0, read(NEWEST, *e), answer)
            self.assertIs(told, moment >= 3)

    def test_floor_and_end(self):
        for promise, evidence in [(ANY, []), (("age", 9), [("at", 10, 4)]), (NEWEST, [("lease", 0)])]:
            self.assertIs(self.told(promise, evidence, floor=4), True)
            self.assertIs(self.told(promise, evidence, floor=5), False)
            for moment in [-4, -1, 5, 6, 10**20]:
                self.assertIs(self.told(promise, evidence, moment, given=[5]), False)

    def test_results(self):
        for promise, evidence in [(ANY, []), (("age", 9), [("at", 10, 4)]), (NEWEST, [("lease", 0)])]:
            self.assertIs(self.told(promise, evidence, given=[5]), True)
            for given in [[1], [], [5, 5], (5,), [(5,)], [[5]], ["5"], [None], None, 5, "5"]:
                self.assertIs(self.told(promise, evidence, given=given), False, given)

    def test_nothing_is_modified(self):
        asked = read(NEWEST, GET_A)
        answer = ([5], 4, [("lease", 0)])
        leases = list(self.leases)
        accepts(LEDGER, leases, 15, 0, asked, answer)
        self.assertEqual(asked, read(NEWEST, GET_A))
        self.assertEqual(answer, ([5], 4, [("lease", 0)]))
        self.assertEqual(leases, self.leases)


def some_evidence(chance, promise, questions, store, time):
    """Evidence that often has the right form, and now and then is true."""
    ats = [("at", max(0, time - chance.randint(0, 6)), store.moment() - chance.randint(0, 2))]
    count = max(1, len(store.leases()))
    leases = [("lease", chance.randint(max(0, count - 8), count)) for _ in questions]
    if chance.randint(0, 9) == 0:
        return chance.choice([[], ats, leases])
    if promise == ANY:
        return []
    return leases if promise == NEWEST else ats


class AcceptedIsRight(unittest.TestCase):
    """Point 36."""

    def test_answers_with_the_ledger_and_leases_of_one_store(self):
        chance = seeded(36)
        accepted = {"any": 0, "age": 0, "newest": 0}
        for seed in range(60):
            for store, time, _ in run_store(seeded(300 + seed), 120):
                for _ in range(6):
                    word = self.check(chance, store, time)
                    if word is not None:
                        accepted[word] += 1
        for word, count in accepted.items():
            self.assertGreater(count, 300, word)

    def check(self, chance, store, time):
        promise = chance.choice([ANY, NEWEST, NEWEST, ("age", chance.randint(0, 5))])
        questions = [some_question(chance) for _ in range(chance.randint(1, 2))]
        ledger, leases = store.ledger(), store.leases()
        moment = max(0, store.moment() - chance.choice([0, 0, 1, 2, 4]))
        floor = chance.randint(0, store.moment())
        evidence = some_evidence(chance, promise, questions, store, time)
        answer = (results(ledger, questions, moment), moment, evidence)
        asked = read(promise, *questions)
        if not accepts(ledger, leases, time, floor, asked, answer):
            return None
        self.assertTrue(is_right(ledger, time, floor, asked, answer), (asked, answer))
        return promise[0]


if __name__ == "__main__":
    unittest.main()
