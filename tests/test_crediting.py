"""Points 120 and 121."""

import unittest

from leasehall.crediting import credit_removals, removal_cost
from leasehall.paging import farthest_removals, fetch_count, is_valid, oldest_removals
from removal_lists import all_valid, some_keys
from samples import seeded

N = None
ONES = {key: 1 for key in "abcdefghijkl"}


def some_costs(chance):
    return {key: chance.randint(1, 9) for key in "abcdefghijkl"}


def plain_credits(keys, places, costs):
    """The rule "credits", with credits that fall by 1 at a time."""
    held, removals = {}, []
    for key in keys:
        removed = N
        if key not in held and len(held) == places:
            while 0 not in held.values():
                for other in held:
                    held[other] -= 1
            removed = sorted(other for other in held if held[other] == 0)[0]
            del held[removed]
        held[key] = costs[key]
        removals.append(removed)
    return removals


class Removals(unittest.TestCase):
    """Point 120."""

    def test_no_keys(self):
        for places in [1, 8]:
            self.assertEqual(credit_removals([], places, {}), [])

    def test_one_place(self):
        costs = {"a": 9, "b": 1, "c": 5}
        self.assertEqual(credit_removals(list("aabbac"), 1, costs), [N, N, "a", N, "b", "a"])

    def test_keys_of_equal_credit(self):
        self.assertEqual(credit_removals(list("bcad"), 3, ONES), [N, N, N, "a"])
        self.assertEqual(credit_removals(["b", "ab", "aa", "c"], 3, dict.fromkeys(["b", "ab", "aa", "c"], 4)),
                         [N, N, N, "aa"])

    def test_the_least_credit(self):
        costs = {"a": 5, "b": 3, "c": 4, "d": 9}
        self.assertEqual(credit_removals(list("abcd"), 3, costs), [N, N, N, "b"])

    def test_the_least_credit_is_subtracted_from_all(self):
        costs = {"a": 5, "b": 3, "c": 4, "d": 3, "e": 9, "f": 9}
        # After b: a 2, c 1, d 3. After c: a 1, d 2, e 9.
        self.assertEqual(credit_removals(list("abcdef"), 3, costs), [N, N, N, "b", "c", "a"])

    def test_a_key_of_credit_0_is_removed_without_subtracting(self):
        costs = {"a": 2, "b": 2, "c": 9, "d": 1, "e": 1}
        # After a: b 0, c 9. After b: c 9, d 1.
        self.assertEqual(credit_removals(list("abcde"), 2, costs), [N, N, "a", "b", "d"])

    def test_a_key_used_again_gets_its_cost_again(self):
        costs = {"a": 3, "b": 2, "c": 1, "d": 5}
        self.assertEqual(credit_removals(list("abcdc"), 2, costs), [N, N, "b", "a", N])
        self.assertEqual(credit_removals(list("abcad"), 2, costs), [N, N, "b", N, "c"])
        # a has its credit 3 again, and c only 1.
        self.assertEqual(credit_removals(list("abcadb"), 2, costs), [N, N, "b", N, "c", "a"])

    def test_a_use_raises_a_credit_that_had_fallen(self):
        costs = {"a": 4, "b": 3, "c": 3, "d": 3}
        self.assertEqual(credit_removals(list("abcd"), 2, costs), [N, N, "b", "a"])
        self.assertEqual(credit_removals(list("abcad"), 2, costs), [N, N, "b", N, "c"])

    def test_a_fetched_key_has_no_old_credit(self):
        costs = {"a": 1, "b": 5, "c": 5}
        self.assertEqual(credit_removals(list("abcac"), 2, costs), [N, N, "a", "b", N])

    def test_as_the_rule_says(self):
        chance = seeded(120)
        for _ in range(300):
            keys, places, costs = some_keys(chance), chance.randint(1, 8), some_costs(chance)
            removals = credit_removals(keys, places, costs)
            self.assertEqual(removals, plain_credits(keys, places, costs))
            self.assertIs(is_valid(keys, places, removals), True)

    def test_nothing_is_modified(self):
        keys, costs = list("abcab"), {"a": 1, "b": 2, "c": 3}
        removals = credit_removals(keys, 2, costs)
        removal_cost(keys, 2, removals, costs)
        self.assertEqual((keys, costs), (list("abcab"), {"a": 1, "b": 2, "c": 3}))
        self.assertEqual(removals, credit_removals(keys, 2, costs))


class Costs(unittest.TestCase):
    def test_costs(self):
        costs = {"a": 1, "b": 4, "c": 9}
        self.assertEqual(removal_cost([], 3, [], costs), 0)
        self.assertEqual(removal_cost(["b"], 1, [N], costs), 4)
        self.assertEqual(removal_cost(["b", "b"], 1, [N, N], costs), 4)
        self.assertEqual(removal_cost(list("abca"), 2, [N, N, "b", N], costs), 14)
        self.assertEqual(removal_cost(list("abca"), 2, [N, N, "a", "b"], costs), 15)
        self.assertEqual(removal_cost(list("abca"), 3, [N, N, N, N], costs), 14)

    def test_a_cost_of_1_for_all_counts_the_fetches(self):
        chance = seeded(121)
        for _ in range(100):
            keys, places = some_keys(chance), chance.randint(1, 8)
            for rule in [oldest_removals, farthest_removals]:
                removals = rule(keys, places)
                count = fetch_count(keys, places, removals)
                self.assertEqual(removal_cost(keys, places, removals, ONES), count)

    def test_the_bound(self):
        """Point 121."""
        chance = seeded(122)
        for _ in range(80):
            keys, places = some_keys(chance, chance.randint(0, 9)), chance.randint(1, 3)
            costs = some_costs(chance)
            cost = removal_cost(keys, places, credit_removals(keys, places, costs), costs)
            for removals in all_valid(keys, places):
                self.assertLessEqual(cost, places * removal_cost(keys, places, removals, costs))

    def test_the_bound_for_sixty_keys(self):
        chance = seeded(123)
        for _ in range(100):
            keys, places, costs = some_keys(chance, 60), chance.randint(1, 8), some_costs(chance)
            cost = removal_cost(keys, places, credit_removals(keys, places, costs), costs)
            for rule in [oldest_removals, farthest_removals]:
                other = removal_cost(keys, places, rule(keys, places), costs)
                self.assertLessEqual(cost, places * other)


if __name__ == "__main__":
    unittest.main()
