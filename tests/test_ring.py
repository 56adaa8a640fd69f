"""Points 70 and 71."""

import itertools
import unittest

from leasehall.errors import Full, NotFound
from leasehall.ring import Ring, spot
from rings import LETTERS, ring_of, some_keys, some_places, state
from samples import seeded


def plain_spot(text):
    number = 7
    for c in text:
        number = number * 37 + ord(c)
    return number % 4096


def key_at(wanted):
    """A key with this spot; keys of four letters have all spots."""
    words = itertools.product(LETTERS, repeat=4)
    return next("".join(word) for word in words if plain_spot("".join(word)) == wanted)


def label(host, place):
    return (LETTERS[host] + LETTERS[place]) * 2


class Spots(unittest.TestCase):
    def test_the_empty_string(self):
        self.assertEqual(spot(""), 7)

    def test_one_letter(self):
        self.assertEqual(spot("a"), 7 * 37 + 97)
        self.assertEqual(spot("z"), 7 * 37 + 122)

    def test_the_example(self):
        self.assertEqual(spot("bcbc"), 3369)

    def test_two_letters_and_the_remainder(self):
        self.assertEqual(spot("aa"), (356 * 37 + 97) % 4096)
        self.assertEqual(spot("ab"), (356 * 37 + 98) % 4096)
        self.assertNotEqual(spot("ab"), spot("ba"))

    def test_eight_letters(self):
        self.assertEqual(spot("zzzzzzzz"), plain_spot("zzzzzzzz"))
        self.assertEqual(spot("abcdefgh"), plain_spot("abcdefgh"))

    def test_all_are_from_0_to_4095(self):
        chance = seeded(70)
        for word in some_keys(chance, 500):
            self.assertEqual(spot(word), plain_spot(word))
            self.assertTrue(0 <= spot(word) <= 4095)


class Points(unittest.TestCase):
    def test_no_hosts(self):
        self.assertEqual(state(Ring()), ([], []))

    def test_one_host(self):
        ring = ring_of({1: 3})
        spots = [(spot(label(1, place)), 1, place) for place in range(3)]
        self.assertEqual(ring.points(), sorted(spots))
        self.assertIn((3369, 1, 2), ring.points())
        self.assertEqual(ring.hosts(), [1])

    def test_ascending_order_whatever_the_order_of_adding(self):
        places = {5: 2, 0: 6, 25: 1, 3: 4}
        expected = sorted(
            (spot(label(host, place)), host, place)
            for host, count in places.items()
            for place in range(count)
        )
        for order in [[5, 0, 25, 3], [25, 5, 3, 0]]:
            ring = ring_of({host: places[host] for host in order})
            self.assertEqual(ring.points(), expected)
            self.assertEqual(ring.hosts(), [0, 3, 5, 25])

    def test_one_to_six_places(self):
        for count in range(1, 7):
            self.assertEqual(len(ring_of({4: count}).points()), count)

    def test_all_hosts_with_all_places(self):
        points = ring_of({host: 6 for host in range(26)}).points()
        self.assertEqual(points, sorted(points))
        # The labels never share a spot, so no test has two points at one spot.
        self.assertEqual(len({at for at, _, _ in points}), 156)

    def test_lists_are_new(self):
        ring = ring_of({1: 2, 2: 2})
        before = state(ring)
        ring.hosts().clear()
        ring.points().clear()
        ring.homes("a").clear()
        self.assertEqual(state(ring), before)
        self.assertEqual(len(ring.homes("a")), 2)


class AddingAndRemoving(unittest.TestCase):
    def test_twice(self):
        ring = ring_of({1: 2, 2: 3})
        before = state(ring)
        for count in [2, 5]:
            with self.assertRaises(Full):
                ring.add(1, count)
        self.assertEqual(state(ring), before)
        ring.remove(1)
        self.assertEqual(state(ring), state(ring_of({2: 3})))
        before = state(ring)
        for host in [1, 0, 25]:
            with self.assertRaises(NotFound):
                ring.remove(host)
        self.assertEqual(state(ring), before)
        ring.add(1, 6)
        self.assertEqual(state(ring), state(ring_of({1: 6, 2: 3})))

    def test_remove_all(self):
        ring = ring_of({0: 1})
        ring.remove(0)
        self.assertEqual(state(ring), ([], []))


class Homes(unittest.TestCase):
    def test_no_hosts(self):
        self.assertEqual(Ring().homes("a"), [])
        with self.assertRaises(NotFound):
            Ring().home("a")

    def test_one_host(self):
        ring = ring_of({7: 6})
        for key in ["a", "zz", "m"]:
            self.assertEqual((ring.homes(key), ring.home(key)), ([7], 7))

    def test_walks_from_every_part_of_the_ring(self):
        chance = seeded(71)
        begins = {"first": 0, "last": 0, "beyond": 0, "at": 0}
        for _ in range(150):
            ring = ring_of(some_places(chance))
            points = ring.points()
            for key in some_keys(chance):
                ahead = [point for point in points if point[0] >= spot(key)]
                walk = ahead + [point for point in points if point[0] < spot(key)]
                homes = []
                for _, host, _ in walk:
                    if host not in homes:
                        homes.append(host)
                self.assertEqual(ring.homes(key), homes)
                self.assertEqual(ring.home(key), homes[0])
                begins["first"] += ahead == points
                begins["last"] += len(ahead) == 1
                begins["beyond"] += not ahead
                begins["at"] += bool(ahead) and ahead[0][0] == spot(key)
        self.assertTrue(all(begins.values()), begins)

    def test_at_a_point_just_before_it_and_just_behind_it(self):
        ring = ring_of({1: 1, 2: 1})
        (low, first, _), (high, second, _) = ring.points()
        self.assertTrue(0 < low < high < 4095)
        self.assertEqual(ring.homes(key_at(low)), [first, second])
        self.assertEqual(ring.homes(key_at(low - 1)), [first, second])
        self.assertEqual(ring.homes(key_at(low + 1)), [second, first])
        self.assertEqual(ring.homes(key_at(high)), [second, first])
        self.assertEqual(ring.homes(key_at(high + 1)), [first, second])
        self.assertEqual(ring.homes(key_at(4095)), [first, second])
        self.assertEqual(ring.homes(key_at(0)), [first, second])

    def test_a_host_that_is_added(self):
        chance = seeded(72)
        for _ in range(60):
            places = some_places(chance)
            ring = ring_of(places)
            keys = some_keys(chance)
            before = [ring.home(key) for key in keys]
            new = chance.choice([host for host in range(26) if host not in places])
            ring.add(new, chance.randint(1, 6))
            for key, old in zip(keys, before):
                self.assertIn(ring.home(key), (old, new))

    def test_a_host_that_is_removed(self):
        chance = seeded(73)
        for _ in range(60):
            places = some_places(chance)
            if len(places) == 1:
                continue
            ring = ring_of(places)
            keys = some_keys(chance)
            before = [ring.homes(key) for key in keys]
            gone = chance.choice(sorted(places))
            ring.remove(gone)
            for key, homes in zip(keys, before):
                self.assertEqual(ring.home(key), homes[1] if homes[0] == gone else homes[0])
                self.assertEqual(ring.homes(key), [host for host in homes if host != gone])


if __name__ == "__main__":
    unittest.main()
