"""Point 15."""

import unittest

from leasehall.errors import Full, NotFound
from leasehall.network import Network


def beat(time):
    return ("beat", 0, time, 0)


def filled(count):
    network = Network()
    for time in range(count):
        network.send(time % 2 == 0, beat(time))
    return network


class Networks(unittest.TestCase):
    def test_new_network(self):
        self.assertEqual(Network().letters(), [])

    def test_order_and_direction(self):
        network = Network()
        up = ("missing", 1, 0, 3)
        self.assertIs(network.send(False, beat(1)), True)
        self.assertIs(network.send(True, up), True)
        self.assertIs(network.send(False, beat(1)), True)
        self.assertEqual(network.letters(), [(False, beat(1)), (True, up), (False, beat(1))])

    def test_deliver_and_lose(self):
        for name in ["deliver", "lose"]:
            network = filled(4)
            remove = getattr(network, name)
            self.assertEqual(remove(1), (False, beat(1)))
            self.assertEqual(remove(2), (False, beat(3)))
            self.assertEqual(network.letters(), [(True, beat(0)), (True, beat(2))])
            self.assertEqual(remove(0), (True, beat(0)))
            self.assertEqual(remove(0), (True, beat(2)))
            self.assertEqual(network.letters(), [])

    def test_double(self):
        network = filled(3)
        network.double(1)
        network.double(0)
        added = [(False, beat(1)), (True, beat(0))]
        self.assertEqual(network.letters(), filled(3).letters() + added)
        self.assertEqual(network.deliver(1), (False, beat(1)))
        self.assertEqual(network.deliver(2), (False, beat(1)))

    def test_at_most_400_letters(self):
        network = filled(399)
        self.assertIs(network.send(True, beat(1000)), True)
        self.assertEqual(len(network.letters()), 400)
        before = network.letters()
        self.assertIs(network.send(True, beat(1001)), False)
        self.assertIs(network.send(False, beat(1)), False)
        self.assertEqual(network.letters(), before)
        network.lose(7)
        self.assertIs(network.send(True, beat(1002)), True)
        self.assertEqual(network.letters()[-1], (True, beat(1002)))
        network.deliver(0)
        self.assertIs(network.send(True, beat(1003)), True)
        self.assertIs(network.send(True, beat(1004)), False)

    def test_double_with_399_and_400_letters(self):
        network = filled(399)
        network.double(398)
        before = network.letters()
        self.assertEqual(len(before), 400)
        for index in [0, 17, 399]:
            with self.assertRaises(Full):
                network.double(index)
        self.assertEqual(network.letters(), before)

    def test_no_letter_with_the_index(self):
        for count in [0, 1, 3, 399]:
            network = filled(count)
            for name in ["deliver", "lose", "double"]:
                for index in [-1000, -count, -1, count, count + 1, 1000]:
                    if 0 <= index < count:
                        continue
                    with self.assertRaises(NotFound):
                        getattr(network, name)(index)
            self.assertEqual(network.letters(), filled(count).letters())

    def test_not_found_comes_before_full(self):
        network = filled(400)
        for index in [-400, -1, 400, 401]:
            with self.assertRaises(NotFound):
                network.double(index)
        self.assertEqual(network.letters(), filled(400).letters())

    def test_returned_list_is_new(self):
        network = filled(2)
        letters = network.letters()
        letters.clear()
        self.assertEqual(len(network.letters()), 2)
        network.letters().append((True, beat(9)))
        self.assertEqual(network.letters(), filled(2).letters())
        letters = network.letters()
        network.lose(0)
        self.assertEqual(letters, filled(2).letters())


if __name__ == "__main__":
    unittest.main()
