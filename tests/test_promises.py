"""Points 30 to 33."""

import unittest

from leasehall.ledger import at
from leasehall.promises import is_right, reach, results
from leasehall.records import ask, cover_of, touches
from samples import seeded, some_ledger, some_question

LEDGER = [
    (2, (("a", 1),)),
    (4, (("b", 2), ("c", 3))),
    (4, (("d", None),)),
    (9, (("a", 5),)),
    (12, (("c", 4),)),
]
GET_A = ("get", "a")
SUM_BC = ("sum", "b", "c")
ANY = ("any",)
NEWEST = ("newest",)


def read(promise, *questions):
    return (0, "s", list(questions), promise)


def right(promise, moment, questions=(GET_A,), time=20, floor=0):
    """Tell whether the true results of a moment are right."""
    told = (results(LEDGER, list(questions), moment), moment, [])
    return is_right(LEDGER, time, floor, read(promise, *questions), told)


class Reach(unittest.TestCase):
    """Point 31."""

    def test_from_every_moment(self):
        expected = {
            (GET_A,): [0, 3, 3, 3, 5, 5],
            (SUM_BC,): [1, 1, 4, 4, 4, 5],
            (("get", "d"),): [2, 2, 2, 5, 5, 5],
            (("get", "e"),): [5, 5, 5, 5, 5, 5],
            (("list", "a", "z"),): [0, 1, 2, 3, 4, 5],
        }
        for questions, ends in expected.items():
            for moment, end in enumerate(ends):
                self.assertEqual(reach(LEDGER, list(questions), moment), end, (questions, moment))

    def test_several_questions(self):
        ends = [reach(LEDGER, [GET_A, SUM_BC], moment) for moment in range(6)]
        self.assertEqual(ends, [0, 1, 3, 3, 4, 5])
        ends = [reach(LEDGER, [SUM_BC, GET_A], moment) for moment in range(6)]
        self.assertEqual(ends, [0, 1, 3, 3, 4, 5])
        ends = [reach(LEDGER, [("get", "e"), ("get", "d")], moment) for moment in range(6)]
        self.assertEqual(ends, [2, 2, 2, 5, 5, 5])

    def test_empty_covers(self):
        for moment in range(6):
            self.assertEqual(reach(LEDGER, [("sum", "z", "a")], moment), 5)
            self.assertEqual(
                reach(LEDGER, [("list", "c", "b"), GET_A], moment), reach(LEDGER, [GET_A], moment)
            )

    def test_empty_ledger(self):
        self.assertEqual(reach([], [GET_A], 0), 0)

    def test_answers_are_the_same_up_to_the_reach(self):
        chance = seeded(31)
        for _ in range(60):
            ledger = some_ledger(chance, 12)
            questions = [some_question(chance) for _ in range(chance.randint(1, 4))]
            for moment in range(13):
                end = reach(ledger, questions, moment)
                self.assertLessEqual(moment, end)
                for later in range(moment, end + 1):
                    self.assertEqual(
                        results(ledger, questions, later), results(ledger, questions, moment)
                    )
                if end < 12:
                    group = ledger[end][1]
                    self.assertTrue(any(touches(group, cover_of(q)) for q in questions))


class Results(unittest.TestCase):
    def test_one_for_each_question(self):
        questions = [GET_A, SUM_BC, ("list", "b", "z"), ("least", "z", "a")]
        self.assertEqual(results(LEDGER, questions, 0), [None, 0, (), None])
        self.assertEqual(results(LEDGER, questions, 2), [1, 5, (("b", 2), ("c", 3)), None])
        self.assertEqual(results(LEDGER, questions, 5), [5, 6, (("b", 2), ("c", 4)), None])
        self.assertEqual(results(LEDGER, [GET_A, GET_A], 1), [1, 1])

    def test_against_ask(self):
        chance = seeded(33)
        ledger = some_ledger(chance, 30)
        for moment in range(31):
            questions = [some_question(chance) for _ in range(4)]
            expected = [ask(at(ledger, moment), question) for question in questions]
            self.assertEqual(results(ledger, questions, moment), expected)

    def test_new_list_and_nothing_modified(self):
        ledger, questions = list(LEDGER), [GET_A]
        told = results(ledger, questions, 1)
        told.append(7)
        self.assertEqual(results(ledger, questions, 1), [1])
        reach(ledger, questions, 1)
        self.assertEqual((ledger, questions), (LEDGER, [GET_A]))


class Right(unittest.TestCase):
    """Points 30 and 33."""

    def test_moment_from_the_floor_to_the_end(self):
        for moment in range(6):
            for floor in range(8):
                self.assertIs(right(ANY, moment, floor=floor), floor <= moment)

    def test_moments_that_the_ledger_does_not_have(self):
        for promise in [ANY, ("age", 200), NEWEST]:
            for moment in [-1000, -6, -5, -2, -1, 6, 7, 1000, 10**30]:
                for told in [[5], [1], [None]]:
                    answer = (told, moment, [])
                    for floor in [0, 5, -10]:
                        self.assertIs(
                            is_right(LEDGER, 20, floor, read(promise, GET_A), answer), False
                        )

    def test_each_result_counts(self):
        asked = read(ANY, GET_A, SUM_BC)
        self.assertIs(is_right(LEDGER, 20, 0, asked, ([1, 5], 2, [])), True)
        for told in [[1, 6], [2, 5], [5, 1], [None, 5], [1, None]]:
            self.assertIs(is_right(LEDGER, 20, 0, asked, (told, 2, [])), False, told)
        self.assertIs(is_right(LEDGER, 20, 0, asked, ([1, 5], 1, [])), False)

    def test_kinds_of_results(self):
        asked = read(ANY, GET_A)
        for told in [(1,), [(1,)], [[1]], ["1"], [""], [], None, 1, "1", (), [1, 1], [1, None]]:
            self.assertIs(is_right(LEDGER, 20, 0, asked, (told, 1, [])), False, told)
        self.assertIs(is_right(LEDGER, 20, 0, asked, ([1], 1, [])), True)

    def test_too_few_or_too_many(self):
        asked = read(ANY, GET_A, GET_A)
        for told in [[], [1], [1, 1, 1], (1, 1)]:
            self.assertIs(is_right(LEDGER, 20, 0, asked, (told, 1, [])), False, told)
        self.assertIs(is_right(LEDGER, 20, 0, asked, ([1, 1], 1, [])), True)

    def test_tuples_and_lists_in_results(self):
        asked = read(ANY, ("list", "b", "c"))
        good = (("b", 2), ("c", 3))
        self.assertIs(is_right(LEDGER, 20, 0, asked, ([good], 2, [])), True)
        for told in [list(good), (["b", 2], ["c", 3]), good[:1], good[::-1], (), None]:
            self.assertIs(is_right(LEDGER, 20, 0, asked, ([told], 2, [])), False, told)
        asked = read(ANY, ("least", "b", "c"))
        self.assertIs(is_right(LEDGER, 20, 0, asked, ([("b", 2)], 2, [])), True)
        self.assertIs(is_right(LEDGER, 20, 0, asked, ([["b", 2]], 2, [])), False)

    def test_none_is_not_zero(self):
        asked = read(ANY, ("get", "e"))
        self.assertIs(is_right(LEDGER, 20, 0, asked, ([None], 2, [])), True)
        self.assertIs(is_right(LEDGER, 20, 0, asked, ([0], 2, [])), False)
        asked = read(ANY, ("sum", "e", "f"))
        self.assertIs(is_right(LEDGER, 20, 0, asked, ([0], 2, [])), True)
        self.assertIs(is_right(LEDGER, 20, 0, asked, ([None], 2, [])), False)

    def test_newest(self):
        self.assertEqual([right(NEWEST, c) for c in range(6)], [False] * 4 + [True] * 2)
        told = [right(NEWEST, c, [("get", "d")]) for c in range(6)]
        self.assertEqual(told, [False] * 3 + [True] * 3)
        told = [right(NEWEST, c, [("get", "e")]) for c in range(6)]
        self.assertEqual(told, [True] * 6)
        told = [right(NEWEST, c, [("get", "d"), GET_A]) for c in range(6)]
        self.assertEqual(told, [False] * 4 + [True] * 2)
        told = [right(NEWEST, c, [("sum", "d", "a")]) for c in range(6)]
        self.assertEqual(told, [True] * 6)

    def test_newest_needs_the_floor_too(self):
        self.assertIs(right(NEWEST, 4, floor=4), True)
        self.assertIs(right(NEWEST, 4, floor=5), False)

    def test_age_at_the_bound(self):
        # The commits that each moment misses first have the times 2, 9 and none.
        bounds = {0: 18, 1: 11, 2: 11, 3: 11, 4: 0, 5: 0}
        for moment, bound in bounds.items():
            self.assertIs(right(("age", bound), moment), True, moment)
            self.assertIs(right(("age", 200), moment), True, moment)
            if bound > 0:
                self.assertIs(right(("age", bound - 1), moment), False, moment)
                self.assertIs(right(("age", 0), moment), False, moment)

    def test_age_at_the_present_time(self):
        self.assertIs(right(("age", 0), 3, time=12), False)
        self.assertIs(right(("age", 0), 4, [SUM_BC], time=12), True)
        self.assertIs(right(("age", 0), 4, [SUM_BC], time=13), False)
        self.assertIs(right(("age", 1), 4, [SUM_BC], time=13), True)

    def test_age_with_several_questions(self):
        both = [GET_A, SUM_BC]
        self.assertIs(right(("age", 16), 1, both), True)
        self.assertIs(right(("age", 15), 1, both), False)
        self.assertIs(right(("age", 11), 2, both), True)
        self.assertIs(right(("age", 10), 2, both), False)

    def test_age_beyond_the_beginning(self):
        self.assertIs(right(("age", 200), 0, time=12), True)
        self.assertIs(right(("age", 0), 0, [("get", "e")], time=500), True)

    def test_any_is_right_at_every_moment(self):
        for moment in range(6):
            self.assertIs(right(ANY, moment, time=5000), True)

    def test_evidence_does_not_count(self):
        for evidence in [[], [("at", 0, 0)], [("lease", 5)] * 3]:
            for promise in [ANY, ("age", 0), NEWEST]:
                self.assertIs(is_right(LEDGER, 20, 0, read(promise, GET_A), ([5], 4, evidence)), True)

    def test_empty_ledger(self):
        for promise in [ANY, ("age", 0), NEWEST]:
            asked = read(promise, GET_A)
            self.assertIs(is_right([], 7, 0, asked, ([None], 0, [])), True)
            self.assertIs(is_right([], 7, 1, asked, ([None], 0, [])), False)
            self.assertIs(is_right([], 7, 0, asked, ([None], 1, [])), False)

    def test_nothing_is_modified(self):
        asked = read(("age", 3), GET_A)
        answer = ([5], 4, [("at", 0, 0)])
        is_right(LEDGER, 20, 0, asked, answer)
        self.assertEqual(asked, read(("age", 3), GET_A))
        self.assertEqual(answer, ([5], 4, [("at", 0, 0)]))


if __name__ == "__main__":
    unittest.main()
