"""Points 37 and 38."""

import unittest

from leasehall.entries import Entry
from leasehall.ledger import at
from leasehall.records import contains, includes
from samples import seeded, some_cover, some_ledger


class Entries(unittest.TestCase):
    def test_attributes(self):
        entry = Entry(("a", "c"), 4, {"a": 1}, 9)
        self.assertEqual(entry.cover, ("a", "c"))
        self.assertEqual(entry.moment, 4)
        self.assertEqual(entry.records, {"a": 1})
        self.assertEqual(entry.stamp, 9)
        self.assertEqual(entry.told(), (("a", "c"), 4, {"a": 1}, 9))
        self.assertIs(type(entry.told()), tuple)

    def test_stamp_may_be_set(self):
        entry = Entry(("a", "c"), 4, {}, 9)
        entry.stamp = 12
        self.assertEqual(entry.told(), (("a", "c"), 4, {}, 12))

    def test_weight(self):
        self.assertEqual(Entry(("a", "c"), 0, {}, 0).weight(), 1)
        self.assertEqual(Entry(("a", "c"), 0, {"a": 0}, 0).weight(), 2)
        self.assertEqual(Entry(("a", "c"), 0, {"a": 5, "b": 6, "bb": 0}, 0).weight(), 4)
        self.assertEqual(Entry(("c", "a"), 0, {}, 0).weight(), 1)

    def test_weight_after_patches(self):
        entry = Entry(("a", "c"), 0, {}, 0)
        for group, weight in [((("a", 1), ("b", 1)), 3), ((("a", None),), 2), ((("d", 1),), 2)]:
            entry.patch(group)
            self.assertEqual(entry.weight(), weight)

    def test_answers_inside(self):
        entry = Entry(("b", "d"), 0, {}, 0)
        for question in [("get", "b"), ("get", "c"), ("get", "d"), ("get", "bzzz")]:
            self.assertIs(entry.answers(question), True, question)
        for word in ["count", "sum", "list", "least"]:
            for first, last in [("b", "d"), ("b", "c"), ("c", "d"), ("c", "c")]:
                self.assertIs(entry.answers((word, first, last)), True)

    def test_answers_outside(self):
        entry = Entry(("b", "d"), 0, {}, 0)
        for question in [("get", "a"), ("get", "e"), ("get", "da"), ("get", "az")]:
            self.assertIs(entry.answers(question), False, question)
        for word in ["count", "sum", "list", "least"]:
            for first, last in [("a", "d"), ("b", "e"), ("a", "e"), ("e", "f"), ("b", "da")]:
                self.assertIs(entry.answers((word, first, last)), False)

    def test_answers_with_empty_covers(self):
        for cover in [("b", "d"), ("d", "b")]:
            entry = Entry(cover, 0, {}, 0)
            for first, last in [("z", "a"), ("c", "b"), ("ab", "a")]:
                self.assertIs(entry.answers(("sum", first, last)), True)
        self.assertIs(Entry(("d", "b"), 0, {}, 0).answers(("get", "c")), False)
        self.assertIs(Entry(("d", "b"), 0, {}, 0).answers(("list", "b", "d")), False)

    def test_patch_inside_and_outside(self):
        entry = Entry(("b", "d"), 3, {"b": 1, "c": 2}, 7)
        entry.patch((("a", 5), ("b", 6), ("d", 0), ("da", 9)))
        self.assertEqual(entry.told(), (("b", "d"), 4, {"b": 6, "c": 2, "d": 0}, 7))
        entry.patch((("a", None), ("c", None), ("e", None)))
        self.assertEqual(entry.told(), (("b", "d"), 5, {"b": 6, "d": 0}, 7))
        entry.patch((("c", None),))
        self.assertEqual(entry.told(), (("b", "d"), 6, {"b": 6, "d": 0}, 7))
        entry.patch((("z", 1),))
        self.assertEqual(entry.told(), (("b", "d"), 7, {"b": 6, "d": 0}, 7))

    def test_patch_of_an_empty_cover(self):
        entry = Entry(("d", "b"), 0, {}, 0)
        entry.patch((("b", 1), ("c", 2), ("d", 3)))
        self.assertEqual(entry.told(), (("d", "b"), 1, {}, 0))

    def test_patches_follow_the_ledger(self):
        chance = seeded(38)
        for _ in range(40):
            ledger = some_ledger(chance, 15)
            cover = some_cover(chance)
            start = chance.randint(0, 15)
            entry = Entry(cover, start, self.cut(at(ledger, start), cover), 0)
            for moment in range(start + 1, 16):
                entry.patch(ledger[moment - 1][1])
                self.assertEqual(entry.moment, moment)
                self.assertEqual(entry.records, self.cut(at(ledger, moment), cover))

    def cut(self, records, cover):
        return {key: value for key, value in records.items() if contains(cover, key)}

    def test_dicts_are_not_shared(self):
        records = {"a": 1}
        entry = Entry(("a", "c"), 0, records, 0)
        records["b"] = 2
        self.assertEqual(entry.records, {"a": 1})
        entry.patch((("c", 3),))
        self.assertEqual(records, {"a": 1, "b": 2})
        told = entry.told()
        told[2]["b"] = 5
        self.assertEqual(entry.records, {"a": 1, "c": 3})
        self.assertEqual(entry.told()[2], {"a": 1, "c": 3})
        before = entry.told()
        entry.patch((("a", None),))
        self.assertEqual(before[2], {"a": 1, "c": 3})

    def test_answers_as_includes(self):
        chance = seeded(37)
        for _ in range(300):
            outer, inner = some_cover(chance), some_cover(chance)
            entry = Entry(outer, 0, {}, 0)
            self.assertIs(entry.answers(("list",) + inner), includes(outer, inner))


if __name__ == "__main__":
    unittest.main()
