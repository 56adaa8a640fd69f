import itertools
import unittest

from leasehall.records import apply, ask, contains, cover_of, includes, is_group, meets, touches
from samples import seeded, some_cover, some_group, some_question


class Groups(unittest.TestCase):
    """Point 3."""

    def test_number_of_writes(self):
        writes = tuple((key, 1) for key in "abcdefg")
        self.assertIs(is_group(()), False)
        for length in range(1, 7):
            self.assertIs(is_group(writes[:length]), True)
        self.assertIs(is_group(writes), False)

    def test_length_of_keys(self):
        self.assertIs(is_group((("", 1),)), False)
        self.assertIs(is_group((("a", 1),)), True)
        self.assertIs(is_group((("z", 1),)), True)
        self.assertIs(is_group((("abcdefgh", 1),)), True)
        self.assertIs(is_group((("abcdefghi", 1),)), False)

    def test_characters_of_keys(self):
        for code in range(32, 127):
            if chr(code) == "%":
                continue
            for key in [chr(code), "a" + chr(code), chr(code) + "a"]:
                self.assertIs(is_group(((key, 1),)), "a" <= chr(code) <= "z", key)

    def test_values(self):
        for value in [-999, -1, 0, 999, None]:
            self.assertIs(is_group((("a", value),)), True)
        for value in [-1000, 1000, 10**30, -(10**30)]:
            self.assertIs(is_group((("a", value),)), False)

    def test_order_of_keys(self):
        self.assertIs(is_group((("a", 1), ("b", 1))), True)
        self.assertIs(is_group((("a", 1), ("a", 1))), False)
        self.assertIs(is_group((("a", 1), ("a", None))), False)
        self.assertIs(is_group((("b", 1), ("a", 1))), False)
        self.assertIs(is_group((("a", 1), ("aa", 1), ("b", 1))), True)
        self.assertIs(is_group((("aa", 1), ("a", 1))), False)

    def test_each_write_counts(self):
        good = [("a", 1), ("b", None), ("c", 3), ("d", 4), ("e", 5), ("f", 6)]
        self.assertIs(is_group(tuple(good)), True)
        for place in range(6):
            key, value = good[place]
            for bad in [(key, 1000), (key + "A", value), (key, -1000)]:
                changed = good[:place] + [bad] + good[place + 1 :]
                self.assertIs(is_group(tuple(changed)), False, changed)
        for place in range(5):
            swapped = good[:place] + [good[place + 1], good[place]] + good[place + 2 :]
            self.assertIs(is_group(tuple(swapped)), False, swapped)


class Covers(unittest.TestCase):
    """Point 5."""

    def test_contains(self):
        cover = ("b", "d")
        for key in ["b", "ba", "c", "czzzzzzz", "d"]:
            self.assertIs(contains(cover, key), True, key)
        for key in ["a", "azzzzzzz", "da", "e"]:
            self.assertIs(contains(cover, key), False, key)

    def test_contains_with_one_key_or_none(self):
        self.assertIs(contains(("b", "b"), "b"), True)
        self.assertIs(contains(("b", "b"), "ba"), False)
        self.assertIs(contains(("b", "b"), "a"), False)
        for key in ["a", "b", "c", "d", "e"]:
            self.assertIs(contains(("d", "b"), key), False)

    def test_meets(self):
        self.assertIs(meets(("a", "c"), ("b", "d")), True)
        self.assertIs(meets(("a", "b"), ("c", "d")), False)
        self.assertIs(meets(("a", "d"), ("b", "c")), True)
        self.assertIs(meets(("a", "b"), ("b", "c")), True)
        self.assertIs(meets(("b", "c"), ("a", "b")), True)
        self.assertIs(meets(("b", "b"), ("b", "b")), True)
        self.assertIs(meets(("b", "b"), ("ba", "c")), False)

    def test_a_cover_without_a_key_meets_none(self):
        for other in [("a", "z"), ("b", "d"), ("d", "b"), ("c", "c")]:
            self.assertIs(meets(("d", "b"), other), False)
            self.assertIs(meets(other, ("d", "b")), False)

    def test_includes(self):
        self.assertIs(includes(("a", "d"), ("b", "c")), True)
        self.assertIs(includes(("b", "c"), ("b", "c")), True)
        self.assertIs(includes(("b", "c"), ("a", "c")), False)
        self.assertIs(includes(("b", "c"), ("b", "d")), False)
        self.assertIs(includes(("b", "c"), ("b", "ca")), False)
        self.assertIs(includes(("b", "c"), ("az", "c")), False)
        self.assertIs(includes(("b", "c"), ("d", "e")), False)
        self.assertIs(includes(("a", "d"), ("c", "c")), True)
        self.assertIs(includes(("c", "c"), ("c", "c")), True)

    def test_includes_without_keys(self):
        for outer in [("a", "z"), ("b", "b"), ("z", "a"), ("c", "b")]:
            self.assertIs(includes(outer, ("d", "c")), True)
        for inner in [("a", "z"), ("b", "b"), ("b", "c")]:
            self.assertIs(includes(("c", "b"), inner), False)

    def test_against_the_words(self):
        # The first and last keys are a part of all keys, so that every
        # difference shows among them.
        keys = ["a", "aa", "b", "c", "ca"]
        covers = list(itertools.product(keys, keys))
        for one, other in itertools.product(covers, covers):
            held = {key for key in keys if one[0] <= key <= one[1]}
            others = {key for key in keys if other[0] <= key <= other[1]}
            self.assertIs(meets(one, other), bool(held & others))
            self.assertIs(includes(one, other), held >= others)

    def test_touches(self):
        group = (("b", 1), ("d", None))
        for cover in [("b", "b"), ("a", "b"), ("d", "d"), ("d", "z"), ("a", "z"), ("c", "d")]:
            self.assertIs(touches(group, cover), True, cover)
        for cover in [("a", "a"), ("c", "c"), ("ba", "cz"), ("e", "z"), ("d", "b"), ("z", "a")]:
            self.assertIs(touches(group, cover), False, cover)


class Questions(unittest.TestCase):
    """Point 6."""

    records = {"d": 4, "b": -2, "c": 7, "a": 5, "e": -2, "ab": 0}

    def test_covers(self):
        self.assertEqual(cover_of(("get", "b")), ("b", "b"))
        for word in ["count", "sum", "list", "least"]:
            self.assertEqual(cover_of((word, "b", "d")), ("b", "d"))
            self.assertEqual(cover_of((word, "d", "b")), ("d", "b"))

    def test_get(self):
        self.assertEqual(ask(self.records, ("get", "c")), 7)
        self.assertEqual(ask(self.records, ("get", "ab")), 0)
        self.assertIsNone(ask(self.records, ("get", "f")))
        self.assertIsNone(ask({}, ("get", "a")))

    def test_count(self):
        self.assertEqual(ask(self.records, ("count", "a", "e")), 6)
        self.assertEqual(ask(self.records, ("count", "aa", "c")), 3)
        self.assertEqual(ask(self.records, ("count", "f", "z")), 0)
        self.assertEqual(ask(self.records, ("count", "e", "a")), 0)

    def test_sum(self):
        self.assertEqual(ask(self.records, ("sum", "a", "e")), 12)
        self.assertEqual(ask(self.records, ("sum", "b", "b")), -2)
        self.assertEqual(ask(self.records, ("sum", "d", "e")), 2)
        self.assertEqual(ask(self.records, ("sum", "f", "z")), 0)
        self.assertEqual(ask(self.records, ("sum", "e", "a")), 0)

    def test_list(self):
        found = ask(self.records, ("list", "aa", "c"))
        self.assertEqual(found, (("ab", 0), ("b", -2), ("c", 7)))
        self.assertIs(type(found), tuple)
        self.assertTrue(all(type(record) is tuple for record in found))
        self.assertEqual(ask(self.records, ("list", "f", "z")), ())
        self.assertEqual(ask(self.records, ("list", "e", "a")), ())

    def test_least(self):
        self.assertEqual(ask(self.records, ("least", "a", "z")), ("b", -2))
        self.assertEqual(ask(self.records, ("least", "c", "z")), ("e", -2))
        self.assertEqual(ask(self.records, ("least", "c", "d")), ("d", 4))
        self.assertEqual(ask({"c": 1, "b": 1, "d": 1}, ("least", "a", "z")), ("b", 1))
        self.assertIsNone(ask(self.records, ("least", "f", "z")))
        self.assertIsNone(ask(self.records, ("least", "e", "a")))

    def test_only_the_cover_counts(self):
        chance = seeded(6)
        for _ in range(300):
            question = some_question(chance)
            records = apply(apply({}, some_group(chance)), some_group(chance))
            inside = {k: v for k, v in records.items() if contains(cover_of(question), k)}
            self.assertEqual(ask(records, question), ask(inside, question))

    def test_records_are_not_modified(self):
        before = dict(self.records)
        for word in ["count", "sum", "list", "least"]:
            ask(self.records, (word, "a", "z"))
        self.assertEqual(list(self.records.items()), list(before.items()))


class Applying(unittest.TestCase):
    """Points 2, 3 and 4: the dict after the writes."""

    def test_writes_and_removals(self):
        records = {"a": 1, "b": 2}
        self.assertEqual(apply(records, (("a", 5), ("c", 0))), {"a": 5, "b": 2, "c": 0})
        self.assertEqual(apply(records, (("a", None),)), {"b": 2})
        self.assertEqual(apply(records, (("c", None),)), {"a": 1, "b": 2})
        self.assertEqual(apply({}, (("a", None), ("b", -999))), {"b": -999})

    def test_new_dict_and_old_one_unchanged(self):
        records = {"a": 1}
        for group in [(("a", 2),), (("a", None),), (("b", None),), (("a", 1),)]:
            changed = apply(records, group)
            self.assertIsNot(changed, records)
            changed["z"] = 9
            self.assertEqual(records, {"a": 1})

    def test_only_touched_covers_change(self):
        chance = seeded(5)
        for _ in range(300):
            records = apply({}, some_group(chance))
            group = some_group(chance)
            cover = some_cover(chance)
            if not touches(group, cover):
                question = ("list",) + cover
                self.assertEqual(ask(apply(records, group), question), ask(records, question))


if __name__ == "__main__":
    unittest.main()
