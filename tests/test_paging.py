"""Points 55 to 58."""

import itertools
import unittest

from leasehall.paging import (
    farthest_removals, fetch_count, is_valid, oldest_removals, phase_starts,
)
from removal_lists import all_valid, some_keys
from samples import seeded

N = None


def plain_removals(keys, places, rule):
    """The removals of a rule, by looking at the times of all uses."""
    held, removals = [], []
    for now, key in enumerate(keys):
        removed = N
        if key not in held and len(held) == places:
            removed = rule(keys, now, sorted(held))
            held.remove(removed)
        if key not in held:
            held.append(key)
        removals.append(removed)
    return removals


def plain_oldest(keys, now, held):
    return min(held, key=lambda key: max(at for at in range(now) if keys[at] == key))


def plain_farthest(keys, now, held):
    def following(key):
        return min([at for at in range(now, len(keys)) if keys[at] == key], default=1000)

    return max(held, key=lambda key: (following(key), [-ord(c) for c in key]))


class Oldest(unittest.TestCase):
    def test_no_keys(self):
        for places in [1, 8]:
            self.assertEqual(oldest_removals([], places), [])
            self.assertEqual(farthest_removals([], places), [])

    def test_one_place(self):
        keys = ["a", "a", "b", "b", "a", "c"]
        for rule in [oldest_removals, farthest_removals]:
            self.assertEqual(rule(keys, 1), [N, N, "a", N, "b", "a"])

    def test_a_use_counts_and_not_the_fetch(self):
        self.assertEqual(oldest_removals(list("abac"), 2), [N, N, N, "b"])
        self.assertEqual(oldest_removals(list("abc"), 2), [N, N, "a"])
        self.assertEqual(oldest_removals(list("abbac"), 2), [N, N, N, N, "b"])

    def test_a_longer_list(self):
        keys = list("abcadbeac")
        self.assertEqual(oldest_removals(keys, 3), [N, N, N, N, "b", "c", "a", "d", "b"])

    def test_eight_places(self):
        keys = list("abcdefgh") + ["a", "i", "b", "j"]
        self.assertEqual(oldest_removals(keys, 8), [N] * 8 + [N, "b", "c", "d"])

    def test_as_the_times_of_uses_tell(self):
        chance = seeded(56)
        for _ in range(300):
            keys, places = some_keys(chance), chance.randint(1, 8)
            expected = plain_removals(keys, places, plain_oldest)
            self.assertEqual(oldest_removals(keys, places), expected)

    def test_the_keys_are_not_modified(self):
        keys = list("abcabc")
        for rule in [oldest_removals, farthest_removals, phase_starts]:
            rule(keys, 2)
            self.assertEqual(keys, list("abcabc"))


class Farthest(unittest.TestCase):
    def test_the_latest_next_use(self):
        self.assertEqual(farthest_removals(list("abcab"), 2), [N, N, "b", N, "a"])
        self.assertEqual(farthest_removals(list("abcba"), 2), [N, N, "a", N, "b"])

    def test_keys_that_are_not_used_again(self):
        self.assertEqual(farthest_removals(list("abcda"), 3), [N, N, N, "b", N])
        self.assertEqual(farthest_removals(list("cabd"), 3), [N, N, N, "a"])
        self.assertEqual(farthest_removals(["b", "ab", "aa", "c"], 3), [N, N, N, "aa"])
        self.assertEqual(farthest_removals(list("cbade"), 3), [N, N, N, "a", "b"])

    def test_one_that_is_used_again_stays_before_all_others(self):
        keys = list("abcd") + ["c"] * 20 + ["a"]
        self.assertEqual(farthest_removals(keys, 3)[3], "b")

    def test_as_the_times_of_uses_tell(self):
        chance = seeded(57)
        for _ in range(300):
            keys, places = some_keys(chance), chance.randint(1, 8)
            expected = plain_removals(keys, places, plain_farthest)
            self.assertEqual(farthest_removals(keys, places), expected)

    def test_no_list_has_fewer_fetches(self):
        """Point 58."""
        chance = seeded(58)
        for _ in range(60):
            keys, places = some_keys(chance, chance.randint(0, 9)), chance.randint(1, 3)
            counts = [fetch_count(keys, places, removals) for removals in all_valid(keys, places)]
            self.assertEqual(
                fetch_count(keys, places, farthest_removals(keys, places)), min(counts)
            )


class Validity(unittest.TestCase):
    def test_no_keys(self):
        self.assertIs(is_valid([], 1, []), True)
        self.assertIs(is_valid([], 1, [N]), False)

    def test_the_rules_are_valid(self):
        chance = seeded(55)
        for _ in range(200):
            keys, places = some_keys(chance), chance.randint(1, 8)
            for rule in [oldest_removals, farthest_removals]:
                self.assertIs(is_valid(keys, places, rule(keys, places)), True)

    def test_sixty_keys(self):
        keys = list("abcdefghij" * 6)
        for places in [1, 8]:
            removals = oldest_removals(keys, places)
            self.assertEqual(len(removals), 60)
            self.assertIs(is_valid(keys, places, removals), True)

    def test_lengths(self):
        keys = list("abca")
        self.assertIs(is_valid(keys, 2, [N, N, "b", N]), True)
        for removals in [[], [N, N, "b"], [N, N, "b", N, N], [N, N, "b", N, "a"], [N] * 60]:
            self.assertIs(is_valid(keys, 2, removals), False)

    def test_wrong_at_one_entry(self):
        keys = list("abca")
        for removals in [
            [N, N, N, N],
            [N, N, "c", N],
            [N, N, "d", N],
            [N, N, "a", N],
            [N, N, "b", "c"],
            [N, N, "b", "a"],
            [N, "a", N, N],
            ["a", N, "b", N],
            ["b", N, "b", N],
            [N, N, "a", "a"],
        ]:
            self.assertIs(is_valid(keys, 2, removals), False, removals)
        self.assertIs(is_valid(keys, 2, [N, N, "a", "b"]), True)
        self.assertIs(is_valid(keys, 2, [N, N, "a", "c"]), True)
        self.assertIs(is_valid(keys, 3, [N, N, N, N]), True)

    def test_exactly_the_valid_ones(self):
        for word in ["abab", "abcb", "aabc", "abca"]:
            keys = list(word)
            for places in [1, 2, 3]:
                valid = all_valid(keys, places)
                for removals in itertools.product([N, "a", "b", "c"], repeat=4):
                    removals = list(removals)
                    self.assertIs(is_valid(keys, places, removals), removals in valid)

    def test_nothing_is_modified(self):
        keys, removals = list("abca"), [N, N, "b", N]
        is_valid(keys, 2, removals)
        fetch_count(keys, 2, removals)
        self.assertEqual((keys, removals), (list("abca"), [N, N, "b", N]))


class Counting(unittest.TestCase):
    def test_counts(self):
        self.assertEqual(fetch_count([], 3, []), 0)
        self.assertEqual(fetch_count(["a"], 1, [N]), 1)
        self.assertEqual(fetch_count(["a", "a", "a"], 1, [N, N, N]), 1)
        self.assertEqual(fetch_count(list("abca"), 2, [N, N, "b", N]), 3)
        self.assertEqual(fetch_count(list("abca"), 2, [N, N, "a", "c"]), 4)
        self.assertEqual(fetch_count(list("abca"), 3, [N, N, N, N]), 3)

    def test_a_key_that_was_removed_is_fetched_again(self):
        keys = list("abababab")
        self.assertEqual(fetch_count(keys, 1, oldest_removals(keys, 1)), 8)
        self.assertEqual(fetch_count(keys, 2, oldest_removals(keys, 2)), 2)


class Phases(unittest.TestCase):
    def test_no_keys_and_one(self):
        self.assertEqual(phase_starts([], 1), [])
        self.assertEqual(phase_starts(["a"], 1), [0])

    def test_phases(self):
        self.assertEqual(phase_starts(list("aabbab"), 1), [0, 2, 4, 5])
        self.assertEqual(phase_starts(list("abcab"), 2), [0, 2, 4])
        self.assertEqual(phase_starts(list("abbaacab"), 2), [0, 5, 7])
        self.assertEqual(phase_starts(list("abbaacab"), 3), [0])
        self.assertEqual(phase_starts(list("abcabc"), 8), [0])
        self.assertEqual(phase_starts(list("abcdefghia"), 8), [0, 8])

    def test_as_long_as_possible(self):
        chance = seeded(59)
        for _ in range(200):
            keys, places = some_keys(chance), chance.randint(1, 8)
            starts = phase_starts(keys, places)
            ends = starts[1:] + [len(keys)]
            self.assertEqual(starts[:1], [0] if keys else [])
            for start, end in zip(starts, ends):
                self.assertLessEqual(len(set(keys[start:end])), places)
                if end < len(keys):
                    self.assertEqual(len(set(keys[start:end + 1])), places + 1)

    def test_the_bound(self):
        """Point 58."""
        chance = seeded(60)
        for _ in range(80):
            keys, places = some_keys(chance, chance.randint(0, 9)), chance.randint(1, 3)
            most = fetch_count(keys, places, oldest_removals(keys, places))
            starts = phase_starts(keys, places)
            self.assertLessEqual(most, places * len(starts))
            for removals in all_valid(keys, places):
                count = fetch_count(keys, places, removals)
                self.assertGreaterEqual(count, len(starts))
                self.assertLessEqual(most, places * count)

    def test_the_bound_for_sixty_keys(self):
        chance = seeded(61)
        for _ in range(100):
            keys, places = some_keys(chance, 60), chance.randint(1, 8)
            most = fetch_count(keys, places, oldest_removals(keys, places))
            least = fetch_count(keys, places, farthest_removals(keys, places))
            starts = phase_starts(keys, places)
            self.assertLessEqual(least, most)
            self.assertLessEqual(most, places * least)
            self.assertLessEqual(most, places * len(starts))
            self.assertGreaterEqual(least, len(starts))


if __name__ == "__main__":
    unittest.main()
