import unittest

from leasehall.ledger import at, first_touch, moment_at
from leasehall.records import apply
from samples import seeded, some_ledger

LEDGER = [
    (0, (("a", 1),)),
    (3, (("a", 2), ("c", 5))),
    (3, (("b", 0),)),
    (7, (("a", None), ("d", -4))),
    (7, (("z", None),)),
]


class Moments(unittest.TestCase):
    """Point 4."""

    def test_at_each_moment(self):
        self.assertEqual(at(LEDGER, 0), {})
        self.assertEqual(at(LEDGER, 1), {"a": 1})
        self.assertEqual(at(LEDGER, 2), {"a": 2, "c": 5})
        self.assertEqual(at(LEDGER, 3), {"a": 2, "c": 5, "b": 0})
        self.assertEqual(at(LEDGER, 4), {"c": 5, "b": 0, "d": -4})
        self.assertEqual(at(LEDGER, 5), {"c": 5, "b": 0, "d": -4})
        self.assertEqual(at([], 0), {})

    def test_each_moment_follows_from_the_one_before(self):
        ledger = some_ledger(seeded(4), 200)
        for number, (_, group) in enumerate(ledger):
            self.assertEqual(at(ledger, number + 1), apply(at(ledger, number), group))

    def test_new_dicts(self):
        before = list(LEDGER)
        for moment in range(6):
            at(LEDGER, moment)["y"] = 1
            self.assertNotIn("y", at(LEDGER, moment))
        self.assertEqual(LEDGER, before)

    def test_moment_at(self):
        expected = {-1: 0, 0: 1, 1: 1, 2: 1, 3: 3, 4: 3, 6: 3, 7: 5, 8: 5, 1000: 5}
        for time, moment in expected.items():
            self.assertEqual(moment_at(LEDGER, time), moment, time)

    def test_moment_at_before_the_first_commit(self):
        self.assertEqual(moment_at([], 0), 0)
        self.assertEqual(moment_at([], 50), 0)
        self.assertEqual(moment_at(LEDGER[1:], 0), 0)
        self.assertEqual(moment_at(LEDGER[1:], 2), 0)
        self.assertEqual(moment_at(LEDGER[1:], 3), 2)


class FirstTouch(unittest.TestCase):
    def test_commits_after_the_moment_only(self):
        for moment, touch in [(0, 1), (1, 2), (2, 4), (3, 4), (4, None), (5, None)]:
            self.assertEqual(first_touch(LEDGER, moment, [("a", "a")]), touch, moment)

    def test_several_covers(self):
        self.assertEqual(first_touch(LEDGER, 1, [("x", "z"), ("d", "d")]), 4)
        self.assertEqual(first_touch(LEDGER, 1, [("d", "d"), ("b", "b")]), 3)
        self.assertEqual(first_touch(LEDGER, 4, [("a", "c"), ("y", "z")]), 5)

    def test_none(self):
        self.assertIsNone(first_touch(LEDGER, 0, []))
        self.assertIsNone(first_touch(LEDGER, 0, [("z", "a")]))
        self.assertIsNone(first_touch(LEDGER, 0, [("e", "y")]))
        self.assertIsNone(first_touch([], 0, [("a", "z")]))

    def test_a_removal_and_an_unchanged_value_touch(self):
        self.assertEqual(first_touch(LEDGER, 4, [("z", "z")]), 5)
        self.assertEqual(first_touch([(0, (("a", 1),)), (1, (("a", 1),))], 1, [("a", "a")]), 2)

    def test_nothing_is_modified(self):
        ledger, covers = list(LEDGER), [("a", "b"), ("c", "d")]
        first_touch(ledger, 0, covers)
        moment_at(ledger, 3)
        self.assertEqual(ledger, LEDGER)
        self.assertEqual(covers, [("a", "b"), ("c", "d")])


if __name__ == "__main__":
    unittest.main()
