"""Points 80 and 81, and point 2 for routing."""

import unittest

from leasehall.ring import Ring
from leasehall.routing import moves, route, route_questions
from rings import HOMES, PLACES, ring_of, some_keys, some_places, state
from samples import seeded

WORDS = ["get", "count", "sum", "list", "least"]


def question(word, first, last="zz"):
    return ("get", first) if word == "get" else (word, first, last)


class Keys(unittest.TestCase):
    """Point 80, keys."""

    def setUp(self):
        self.ring = ring_of(PLACES)

    def test_the_homes_on_which_the_tests_rest(self):
        for key, homes in HOMES.items():
            self.assertEqual(self.ring.homes(key), homes)

    def test_all_are_up(self):
        for key, homes in HOMES.items():
            self.assertEqual(route(self.ring, [0, 1, 2], key), homes[0])

    def test_the_first_home_that_is_up(self):
        self.assertEqual(route(self.ring, [1, 2], "aa"), 1)
        self.assertEqual(route(self.ring, [2], "aa"), 2)
        self.assertEqual(route(self.ring, [0, 2], "xa"), 2)
        self.assertEqual(route(self.ring, [0], "xa"), 0)
        self.assertEqual(route(self.ring, [1, 2], "caa"), 2)
        self.assertEqual(route(self.ring, [0, 1], "cza"), 0)

    def test_the_order_of_the_list_does_not_matter(self):
        for up in [[0, 1, 2], [2, 1, 0], [1, 2, 0]]:
            for key, homes in HOMES.items():
                self.assertEqual(route(self.ring, up, key), homes[0])
        self.assertEqual(route(self.ring, [2, 1], "aa"), 1)

    def test_hosts_that_are_not_in_the_ring_and_hosts_twice(self):
        self.assertEqual(route(self.ring, [7, 25, 2, 3], "aa"), 2)
        self.assertEqual(route(self.ring, [2, 2, 1, 1], "aa"), 1)
        self.assertEqual(route(self.ring, [9, 2, 9, 2], "aa"), 2)

    def test_no_home_is_up(self):
        self.assertIsNone(route(self.ring, [], "aa"))
        self.assertIsNone(route(self.ring, [3, 25], "aa"))

    def test_a_ring_without_hosts(self):
        self.assertIsNone(route(Ring(), [], "aa"))
        self.assertIsNone(route(Ring(), [0, 1, 2], "aa"))

    def test_host_0_is_a_host(self):
        self.assertEqual(route(ring_of({0: 1}), [0], "aa"), 0)

    def test_by_the_homes(self):
        chance = seeded(80)
        for _ in range(60):
            ring = ring_of(some_places(chance, 0))
            up = [chance.randrange(26) for _ in range(chance.randint(0, 20))]
            for key in some_keys(chance, 10):
                expected = [home for home in ring.homes(key) if home in up] + [None]
                self.assertEqual(route(ring, up, key), expected[0])

    def test_nothing_is_modified(self):
        up = [2, 1, 2]
        before = state(self.ring)
        route(self.ring, up, "aa")
        route_questions(self.ring, up, [("get", "aa")])
        self.assertEqual((up, state(self.ring)), ([2, 1, 2], before))


class Questions(unittest.TestCase):
    """Point 80, questions."""

    def setUp(self):
        self.ring = ring_of(PLACES)

    def routed(self, *keys, up=(0, 1, 2)):
        return route_questions(self.ring, list(up), [("get", key) for key in keys])

    def test_one_question_of_each_kind(self):
        for word in WORDS:
            for key, homes in HOMES.items():
                self.assertEqual(route_questions(self.ring, [0, 1, 2], [question(word, key)]), homes[0])

    def test_only_the_first_key_counts(self):
        for word in WORDS[1:]:
            for last in HOMES:
                for first, homes in HOMES.items():
                    asked = [(word, first, last)]
                    self.assertEqual(route_questions(self.ring, [0, 1, 2], asked), homes[0])

    def test_the_most(self):
        self.assertEqual(self.routed("aa", "cza", "cza"), 2)
        self.assertEqual(self.routed("cza", "aa", "cza"), 2)
        self.assertEqual(self.routed("aa", "xa", "xa", "cza"), 1)
        self.assertEqual(self.routed("cza", "xa", "aa", "caa"), 0)

    def test_questions_of_several_kinds(self):
        asked = [("get", "aa"), ("sum", "cza", "aa"), ("list", "cza", "aa")]
        self.assertEqual(route_questions(self.ring, [0, 1, 2], asked), 2)
        asked = [("get", "aa"), ("get", "xa"), ("least", "xa", "aa"), ("count", "cza", "aa")]
        self.assertEqual(route_questions(self.ring, [0, 1, 2], asked), 1)

    def test_a_tie_goes_to_the_least_index(self):
        self.assertEqual(self.routed("xa", "aa"), 0)
        self.assertEqual(self.routed("cza", "xa"), 1)
        self.assertEqual(self.routed("cza", "cza", "xa", "xa"), 1)
        self.assertEqual(self.routed("aa", "cza", "cza", "xa", "xa"), 1)

    def test_only_hosts_that_are_up(self):
        self.assertEqual(self.routed("aa", "aa", "xa", up=[1, 2]), 1)
        self.assertEqual(self.routed("aa", "caa", "caa", up=[2, 1]), 2)
        self.assertEqual(self.routed("aa", "caa", "caa", up=[1]), 1)
        self.assertEqual(self.routed("xa", up=[0, 9]), 0)

    def test_none_is_routed(self):
        self.assertIsNone(self.routed("aa", "xa", up=[]))
        self.assertIsNone(self.routed("aa", "xa", up=[3, 4]))
        self.assertIsNone(route_questions(Ring(), [0, 1], [("get", "aa"), ("sum", "a", "b")]))

    def test_by_counting(self):
        chance = seeded(81)
        for _ in range(80):
            ring = ring_of(some_places(chance, 0))
            up = [chance.randrange(26) for _ in range(chance.randint(0, 26))]
            keys = some_keys(chance, chance.randint(1, 6))
            asked = [question(chance.choice(WORDS), key) for key in keys]
            hosts = [route(ring, up, key) for key in keys]
            hosts = [host for host in hosts if host is not None]
            most = max([hosts.count(host) for host in hosts], default=0)
            expected = min([host for host in hosts if hosts.count(host) == most], default=None)
            self.assertEqual(route_questions(ring, up, asked), expected)

    def test_the_questions_are_not_modified(self):
        asked = [("get", "xa"), ("sum", "aa", "b")]
        route_questions(self.ring, [0, 1, 2], asked)
        self.assertEqual(asked, [("get", "xa"), ("sum", "aa", "b")])


class Moves(unittest.TestCase):
    """Point 81."""

    def test_a_host_that_is_added(self):
        before, after = ring_of({0: 3, 1: 2}), ring_of(PLACES)
        found = moves(before, after, ["xa", "cza", "caa", "aa"])
        self.assertEqual(found, [("cza", 0, 2)])

    def test_a_host_that_is_removed(self):
        before, after = ring_of(PLACES), ring_of({1: 2, 2: 4})
        found = moves(before, after, ["xa", "cza", "caa", "aa"])
        self.assertEqual(found, [("aa", 0, 1), ("caa", 0, 2)])

    def test_a_host_that_is_replaced(self):
        found = moves(ring_of({0: 3}), ring_of({5: 1}), ["b", "a"])
        self.assertEqual(found, [("a", 0, 5), ("b", 0, 5)])

    def test_keys_twice_and_out_of_order(self):
        keys = ["caa", "aa", "xa", "caa", "aa", "caa"]
        found = moves(ring_of(PLACES), ring_of({1: 2, 2: 4}), keys)
        self.assertEqual(found, [("aa", 0, 1), ("caa", 0, 2)])

    def test_keys_are_in_the_order_of_strings(self):
        keys = ["b", "ab", "aa", "a", "abc", "z"]
        found = moves(Ring(), ring_of({3: 1}), keys)
        self.assertEqual([key for key, _, _ in found], ["a", "aa", "ab", "abc", "b", "z"])

    def test_no_hosts_before(self):
        found = moves(Ring(), ring_of({0: 2}), ["b", "a"])
        self.assertEqual(found, [("a", None, 0), ("b", None, 0)])

    def test_no_hosts_after(self):
        found = moves(ring_of({0: 2}), Ring(), ["b", "a"])
        self.assertEqual(found, [("a", 0, None), ("b", 0, None)])

    def test_no_hosts_on_both_sides(self):
        self.assertEqual(moves(Ring(), Ring(), ["b", "a"]), [])

    def test_equal_rings(self):
        chance = seeded(82)
        for _ in range(10):
            places = some_places(chance, 0)
            self.assertEqual(moves(ring_of(places), ring_of(places), some_keys(chance, 50)), [])
        ring = ring_of(PLACES)
        self.assertEqual(moves(ring, ring, list(HOMES)), [])

    def test_no_keys(self):
        self.assertEqual(moves(ring_of(PLACES), ring_of({1: 2}), []), [])

    def test_by_the_homes(self):
        chance = seeded(83)
        moved = 0
        for _ in range(40):
            before, after = ring_of(some_places(chance, 0)), ring_of(some_places(chance, 0))
            keys = some_keys(chance, 40)
            expected = []
            for key in sorted(set(keys)):
                old, new = (before.homes(key) + [None])[0], (after.homes(key) + [None])[0]
                if old != new:
                    expected.append((key, old, new))
            found = moves(before, after, keys)
            self.assertEqual(found, expected)
            moved += len(found)
        self.assertGreater(moved, 100)

    def test_nothing_is_modified(self):
        before, after, keys = ring_of(PLACES), ring_of({1: 2}), ["b", "a", "b"]
        states = (state(before), state(after))
        moves(before, after, keys).append("x")
        self.assertEqual(keys, ["b", "a", "b"])
        self.assertEqual((state(before), state(after)), states)
        self.assertNotIn("x", moves(before, after, keys))


if __name__ == "__main__":
    unittest.main()
