"""Point 100, and point 2 for views."""

import unittest

from leasehall.ledger import at
from leasehall.records import ask
from leasehall.views import ask_view, make_view
from samples import KEYS, seeded, some_group, some_ledger, some_view_question

RECORDS = {"a": 3, "b": -2, "c": 3, "d": 0, "e": 7, "f": -2}


def plain_answer(records, question):
    """The answer to a question, counted anew."""
    if question[0] == "top":
        _, n, first, last = question
        inside = [(-value, key) for key, value in records.items() if first <= key <= last]
        return tuple((key, -less) for less, key in sorted(inside)[:n])
    if question[0] == "where":
        _, low, high, first, last = question
        inside = [(key, value) for key, value in sorted(records.items()) if first <= key <= last]
        return tuple((key, value) for key, value in inside if low <= value <= high)
    return ask(records, question)


class Answers(unittest.TestCase):
    """Both ask_view and a view that has taken no group."""

    def check(self, question, expected, records=None):
        records = RECORDS if records is None else records
        before = dict(records)
        self.assertEqual(ask_view(records, question), expected)
        view = make_view(question, records)
        self.assertEqual(view.answer(), expected)
        self.assertEqual(view.answer(), expected)
        self.assertEqual(type(view.answer()), type(expected))
        self.assertEqual(records, before)

    def test_the_questions_of_point_6(self):
        self.check(("get", "a"), 3)
        self.check(("get", "x"), None)
        self.check(("count", "b", "e"), 4)
        self.check(("sum", "b", "e"), 8)
        self.check(("list", "b", "d"), (("b", -2), ("c", 3), ("d", 0)))
        self.check(("least", "a", "f"), ("b", -2))
        self.check(("least", "x", "z"), None)

    def test_top(self):
        self.check(("top", 1, "a", "f"), (("e", 7),))
        self.check(("top", 2, "a", "f"), (("e", 7), ("a", 3)))
        self.check(("top", 3, "a", "f"), (("e", 7), ("a", 3), ("c", 3)))
        self.check(("top", 2, "b", "f"), (("e", 7), ("c", 3)))

    def test_top_with_equal_values(self):
        self.check(("top", 1, "a", "d"), (("a", 3),))
        self.check(("top", 5, "a", "f"), (("e", 7), ("a", 3), ("c", 3), ("d", 0), ("b", -2)))
        records = {"c": 1, "b": 1, "bb": 1, "a": 1, "ab": 1}
        self.check(("top", 3, "a", "z"), (("a", 1), ("ab", 1), ("b", 1)), records)

    def test_top_with_fewer_records(self):
        everything = (("e", 7), ("a", 3), ("c", 3), ("d", 0), ("b", -2), ("f", -2))
        self.check(("top", 6, "a", "f"), everything)
        self.check(("top", 9, "a", "f"), everything)
        self.check(("top", 9, "d", "d"), (("d", 0),))

    def test_top_with_nine(self):
        records = {key: number for number, key in enumerate("abcdefghijkl")}
        self.check(("top", 9, "a", "z"), tuple(zip("lkjihgfed", range(11, 2, -1))), records)
        self.check(("top", 1, "a", "z"), (("l", 11),), records)

    def test_where(self):
        self.check(("where", -1, 4, "a", "f"), (("a", 3), ("c", 3), ("d", 0)))
        self.check(("where", -999, 999, "b", "d"), (("b", -2), ("c", 3), ("d", 0)))

    def test_where_with_bounds_that_values_meet(self):
        self.check(("where", 0, 3, "a", "f"), (("a", 3), ("c", 3), ("d", 0)))
        self.check(("where", 3, 3, "a", "f"), (("a", 3), ("c", 3)))
        self.check(("where", 1, 2, "a", "f"), ())
        self.check(("where", -2, -2, "a", "f"), (("b", -2), ("f", -2)))
        self.check(("where", 7, 2000, "a", "f"), (("e", 7),))
        self.check(("where", 8, 2000, "a", "f"), ())

    def test_where_with_low_above_high(self):
        self.check(("where", 3, 2, "a", "f"), ())
        self.check(("where", 999, -999, "a", "f"), ())

    def test_covers_that_contain_no_key(self):
        for first, last in [("f", "a"), ("b", "a"), ("ab", "a")]:
            self.check(("top", 3, first, last), ())
            self.check(("where", -999, 999, first, last), ())
            self.check(("list", first, last), ())
            self.check(("least", first, last), None)
            self.check(("count", first, last), 0)
            self.check(("sum", first, last), 0)

    def test_no_records(self):
        self.check(("top", 3, "a", "f"), (), {})
        self.check(("where", -999, 999, "a", "f"), (), {})
        self.check(("get", "a"), None, {})

    def test_records_outside_the_cover(self):
        records = {"a": 900, "b": 1, "c": 2, "d": -900}
        self.check(("top", 1, "b", "c"), (("c", 2),), records)
        self.check(("top", 9, "b", "c"), (("c", 2), ("b", 1)), records)
        self.check(("where", -999, 999, "b", "c"), (("b", 1), ("c", 2)), records)
        self.check(("least", "b", "c"), ("b", 1), records)
        self.check(("sum", "b", "c"), 3, records)

    def test_long_keys_at_the_ends_of_a_cover(self):
        records = {"a": 1, "az": 2, "b": 3, "ba": 4}
        self.check(("top", 9, "a", "b"), (("b", 3), ("az", 2), ("a", 1)), records)
        self.check(("where", 2, 4, "az", "b"), (("az", 2), ("b", 3)), records)


class Groups(unittest.TestCase):
    """A view after groups."""

    QUESTIONS = [
        ("get", "b"), ("count", "b", "d"), ("sum", "b", "d"), ("list", "b", "d"), ("least", "b", "d"),
        ("top", 2, "b", "d"), ("where", 0, 5, "b", "d"),
    ]

    def follow(self, question, records, groups):
        view = make_view(question, records)
        records = dict(records)
        for group in groups:
            self.assertIsNone(view.take(group))
            for key, value in group:
                records.pop(key, None)
                if value is not None:
                    records[key] = value
            expected = plain_answer(records, question)
            self.assertEqual(view.answer(), expected, (question, group))
            self.assertEqual(view.answer(), expected, (question, group))

    def test_each_question_after_each_group(self):
        groups = [
            (("b", 5),), (("b", 5),), (("c", 5), ("d", 5)), (("b", None),), (("b", None),),
            (("a", 1), ("e", 9)), (("a", None), ("c", -1), ("e", None)), (("c", None),), (("d", 6),),
            (("bb", 4), ("bbb", 4)), (("b", 0), ("bb", None), ("c", 0), ("d", None)),
        ]
        for question in self.QUESTIONS:
            for records in [{}, RECORDS, {"b": 5}, {"a": -999, "e": 999}]:
                self.follow(question, records, groups)

    def test_removal_of_the_least_record(self):
        view = make_view(("least", "a", "c"), {"a": 2, "b": 1, "c": 1})
        found = [view.answer()]
        for key in ["b", "c", "a", "a"]:
            view.take(((key, None),))
            found.append(view.answer())
        self.assertEqual(found, [("b", 1), ("c", 1), ("a", 2), None, None])

    def test_the_least_record_grows(self):
        view = make_view(("least", "a", "c"), {"a": 2, "b": 1, "c": 3})
        view.take((("b", 5),))
        self.assertEqual(view.answer(), ("a", 2))
        view.take((("c", 2),))
        self.assertEqual(view.answer(), ("a", 2))

    def test_a_record_that_comes_up_into_the_first_ones(self):
        view = make_view(("top", 2, "a", "f"), RECORDS)
        for group, expected in [
            ((("e", None),), (("a", 3), ("c", 3))),
            ((("a", 1), ("c", 1)), (("a", 1), ("c", 1))),
            ((("d", 1), ("f", 2)), (("f", 2), ("a", 1))),
            ((("a", None), ("c", None)), (("f", 2), ("d", 1))),
            ((("b", None), ("d", None)), (("f", 2),)),
            ((("f", None),), ()),
        ]:
            view.take(group)
            self.assertEqual(view.answer(), expected)

    def test_a_value_that_leaves_and_meets_the_bounds(self):
        view = make_view(("where", 0, 5, "a", "b"), {})
        for value, found in [(0, 1), (-1, 0), (5, 1), (6, 0), (3, 1), (None, 0)]:
            view.take((("b", value),))
            self.assertEqual(view.answer(), (("b", value),) * found)

    def test_mixed_ledgers(self):
        chance = seeded(100)
        for _ in range(120):
            ledger = some_ledger(chance, 12)
            question = some_view_question(chance)
            start = chance.randint(0, 12)
            view = make_view(question, at(ledger, start))
            self.assertEqual(view.answer(), plain_answer(at(ledger, start), question))
            for moment in range(start + 1, 13):
                view.take(ledger[moment - 1][1])
                records = at(ledger, moment)
                self.assertEqual(view.answer(), plain_answer(records, question))
                self.assertEqual(ask_view(records, question), plain_answer(records, question))

    def test_views_of_equal_questions_are_apart(self):
        one, other = make_view(("get", "a"), {"a": 1}), make_view(("get", "a"), {"a": 1})
        one.take((("a", 2),))
        self.assertEqual((one.answer(), other.answer()), (2, 1))

    def test_the_records_are_copied_and_not_modified(self):
        chance = seeded(101)
        for question in self.QUESTIONS:
            records = dict(RECORDS)
            view = make_view(question, records)
            before = view.answer()
            for key in KEYS:
                records[key] = 1
            records["bz"] = 4
            self.assertEqual(view.answer(), before)
            records = dict(RECORDS)
            view = make_view(question, records)
            for _ in range(5):
                view.take(some_group(chance))
            self.assertEqual(records, RECORDS)


if __name__ == "__main__":
    unittest.main()
