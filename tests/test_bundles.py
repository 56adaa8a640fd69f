"""Points 82 and 83, and point 2 for bundles."""

import unittest

from leasehall.bundles import pack, receiver, unpack
from samples import seeded


def up(number, host=0):
    return (True, ("missing", host, 0, number))


def down(host, number):
    return (False, ("recall", host, 0, number))


def some_items(chance, count):
    items = []
    for number in range(count):
        host = chance.randint(0, 3)
        items.append(chance.choice([up(number, host), down(host, number), down(host, 0)]))
    return items


class Receivers(unittest.TestCase):
    """Point 82, the receiver."""

    def test_the_store(self):
        for host in [0, 3]:
            self.assertEqual(receiver(up(1, host)), "store")

    def test_the_host_that_the_letter_names(self):
        letters = [
            ("answer", 2, 1, 0, ("get", "a"), None, 0, 0), ("written", 2, 0, 1, 1, 0),
            ("leased", 2, 1, 0, 3, ("a", "b"), 9, 0, 0), ("denied", 2, 1, 0), ("recall", 2, 1, 0),
            ("note", 2, 1, 0, (("a", 1),)), ("beat", 2, 1, 0),
        ]
        for letter in letters:
            self.assertEqual(receiver((False, letter)), 2)
        self.assertEqual(receiver(down(0, 5)), 0)

    def test_the_direction_counts(self):
        self.assertEqual(receiver((True, ("write", 1, 0, 0, (("a", 1),)))), "store")
        self.assertEqual(receiver((False, ("write", 1, 0, 0, (("a", 1),)))), 1)


class Packing(unittest.TestCase):
    """Point 82, packing."""

    mixed = [down(1, 0), up(1), down(0, 2), down(1, 3), up(4, 1), down(1, 5), up(6)]

    def test_nothing(self):
        for limit in [1, 2, 50]:
            self.assertEqual(pack([], limit), [])

    def test_one(self):
        self.assertEqual(pack([up(0)], 1), [("store", [up(0)])])
        self.assertEqual(pack([down(0, 1)], 50), [(0, [down(0, 1)])])

    def test_limit_1(self):
        expected = [
            (1, [down(1, 0)]), ("store", [up(1)]), (0, [down(0, 2)]), (1, [down(1, 3)]),
            ("store", [up(4, 1)]), (1, [down(1, 5)]), ("store", [up(6)]),
        ]
        self.assertEqual(pack(self.mixed, 1), expected)

    def test_limit_2(self):
        expected = [
            (1, [down(1, 0), down(1, 3)]), ("store", [up(1), up(4, 1)]), (0, [down(0, 2)]),
            (1, [down(1, 5)]), ("store", [up(6)]),
        ]
        self.assertEqual(pack(self.mixed, 2), expected)

    def test_limits_that_are_enough(self):
        expected = [
            (1, [down(1, 0), down(1, 3), down(1, 5)]), ("store", [up(1), up(4, 1), up(6)]),
            (0, [down(0, 2)]),
        ]
        for limit in [3, 4, 7, 50]:
            self.assertEqual(pack(self.mixed, limit), expected)

    def test_exactly_the_number_of_letters_and_one_less(self):
        for count in [2, 3, 49, 50]:
            items = [down(2, number) for number in range(count)]
            self.assertEqual(pack(items, count), [(2, items)])
            self.assertEqual(pack(items, count - 1), [(2, items[:-1]), (2, items[-1:])])

    def test_limit_50(self):
        items = [up(number) for number in range(101)]
        expected = [("store", items[:50]), ("store", items[50:100]), ("store", items[100:])]
        self.assertEqual(pack(items, 50), expected)

    def test_a_full_bundle_is_never_filled_again(self):
        items = [down(0, 0), down(0, 1), down(1, 2), down(0, 3), down(1, 4), down(0, 5), down(0, 6)]
        expected = [
            (0, [down(0, 0), down(0, 1)]), (1, [down(1, 2), down(1, 4)]),
            (0, [down(0, 3), down(0, 5)]), (0, [down(0, 6)]),
        ]
        self.assertEqual(pack(items, 2), expected)

    def test_bundles_are_in_the_order_in_which_they_were_made(self):
        items = [down(3, 0), up(1), down(0, 2), down(2, 3), down(3, 4), down(3, 5)]
        self.assertEqual([to for to, _ in pack(items, 2)], [3, "store", 0, 2, 3])

    def test_equal_letters(self):
        self.assertEqual(pack([up(0)] * 3, 2), [("store", [up(0)] * 2), ("store", [up(0)])])

    def test_the_kinds_of_the_parts(self):
        (bundle,) = pack([up(0)], 5)
        self.assertEqual([type(part) for part in (bundle, bundle[1], bundle[1][0])], [tuple, list, tuple])


class Laws(unittest.TestCase):
    """Points 82 and 83, for mixed lists."""

    def lists(self):
        chance = seeded(83)
        for _ in range(150):
            yield some_items(chance, chance.randint(0, 60)), chance.choice([1, 2, 3, 7, 50])

    def test_each_bundle(self):
        for items, limit in self.lists():
            for to, held in pack(items, limit):
                self.assertTrue(1 <= len(held) <= limit)
                self.assertEqual({receiver(item) for item in held}, {to})

    def test_the_tuples_of_a_receiver_keep_their_order(self):
        for items, limit in self.lists():
            bundles = pack(items, limit)
            for to in {receiver(item) for item in items}:
                held = [item for name, inside in bundles if name == to for item in inside]
                self.assertEqual(held, [item for item in items if receiver(item) == to])

    def test_the_number_of_bundles_is_the_least(self):
        for items, limit in self.lists():
            receivers = [receiver(item) for item in items]
            # A receiver of n tuples needs n / limit bundles, rounded up.
            least = sum(-(-receivers.count(to) // limit) for to in set(receivers))
            self.assertEqual(len(pack(items, limit)), least)

    def test_the_order_of_the_bundles(self):
        for items, limit in self.lists():
            marked = [(is_up, letter[:3] + (n,)) for n, (is_up, letter) in enumerate(items)]
            firsts = [held[0][1][3] for _, held in pack(marked, limit)]
            self.assertEqual(firsts, sorted(firsts))


class Unpacking(unittest.TestCase):
    def test_nothing(self):
        self.assertEqual(unpack([]), [])

    def test_one_bundle_after_the_other(self):
        bundles = [(1, [down(1, 0), down(1, 3)]), ("store", [up(1)]), (1, [down(1, 5)])]
        self.assertEqual(unpack(bundles), [down(1, 0), down(1, 3), up(1), down(1, 5)])

    def test_what_pack_returns(self):
        items = Packing.mixed
        expected = [items[0], items[3], items[1], items[4], items[2], items[5], items[6]]
        self.assertEqual(unpack(pack(items, 2)), expected)
        self.assertEqual(unpack(pack(items, 1)), items)
        chance = seeded(84)
        for _ in range(30):
            items = some_items(chance, 40)
            self.assertEqual(sorted(unpack(pack(items, 3))), sorted(items))


class Copies(unittest.TestCase):
    """Point 2."""

    def test_letters_are_not_modified(self):
        items = [up(0), down(1, 1), up(2)]
        for bundle in pack(items, 1):
            bundle[1].append(down(9, 9))
        self.assertEqual(items, [up(0), down(1, 1), up(2)])
        single = [up(0)]
        pack(single, 5)[0][1].clear()
        self.assertEqual(single, [up(0)])

    def test_bundles_share_nothing(self):
        bundles = pack([up(0), up(1), down(0, 2)], 1)
        bundles[0][1].append(up(9))
        self.assertEqual(bundles[1:], [("store", [up(1)]), (0, [down(0, 2)])])

    def test_unpack_modifies_nothing(self):
        bundles = [("store", [up(0)])]
        unpack(bundles).append(up(1))
        self.assertEqual(bundles, [("store", [up(0)])])


if __name__ == "__main__":
    unittest.main()
