"""Point 85, and point 2 for answers as text."""

import unittest

from leasehall.errors import CacheError, Malformed
from leasehall.lettertext import read_answer, write_answer
from result_texts import BIG, RESULTS, WRONG_RESULTS
from samples import seeded
from worlds import some_event, some_world, try_event

GET, COUNT, SUM = ("get", "a"), ("count", "a", "b"), ("sum", "a", "b")
LIST, LEAST = ("list", "a", "b"), ("least", "a", "b")

# Answers, their questions, and their texts.
WRITTEN = [
    (([5], 3, []), [GET], "3 5 -"),
    (([None], 0, []), [GET], "0 none -"),
    (([0], 1, [("at", 7, 1)]), [COUNT], "1 0 at:7:1"),
    (([-12], 1, [("lease", 4)]), [SUM], "1 -12 lease:4"),
    (([()], 0, []), [LIST], "0 [] -"),
    (([(("a", 1), ("b", -2))], 9, []), [LIST], "9 [a=1,b=-2] -"),
    (([None], 9, []), [LEAST], "9 none -"),
    (([("b", -2)], 9, []), [LEAST], "9 (b=-2) -"),
    (([5, None], 2, [("lease", 0), ("lease", 1)]), [GET, GET], "2 5;none lease:0;lease:1"),
    (
        ([(), ("a", 1), None, 4], 6, [("lease", 0), ("lease", 11), ("lease", 0), ("lease", 2)]),
        [LIST, LEAST, GET, SUM],
        "6 [];(a=1);none;4 lease:0;lease:11;lease:0;lease:2",
    ),
    (
        ([1, (("a", 1),), 2, (("a", 1), ("b", 2))], 200, [("at", 5, 2), ("lease", 1), ("at", 0, 0)]),
        [COUNT, LIST, SUM, LIST],
        "200 1;[a=1];2;[a=1,b=2] at:5:2;lease:1;at:0:0",
    ),
    (([BIG], -BIG, [("at", -BIG, BIG), ("lease", -BIG)]), [SUM], "-999999999 999999999 at:-999999999:999999999;lease:-999999999"),
    (([(("none", -BIG),)], BIG, []), [LIST], "999999999 [none=-999999999] -"),
    (([5], 1, [("lease", 0)] * 6), [GET], "1 5 " + ";".join(["lease:0"] * 6)),
]

WRONG = [
    "", " ", "  ", "-", "5", "3 5", "3 5 - -", "3 5 -  ", " 3 5 -", "3 5 - ", "3  5 -", "3 5  -", "3 5 -\n",
    "3 - -", "3  -", " 5 -", "3 5 ", "x 5 -", "none 5 -", "03 5 -", "-0 5 -", "+3 5 -", "1000000000 5 -",
    "3 5;6 -", "3 5; -", "3 ;5 -", "3 ; -", "3,5,-", "3;5;-", "3:5:-", "3 5,6 -", "5 - 3", "- 5 3", "3 5 --",
    "3 5 -;at:1:2", "3 5 at:1:2;-", "3 5 -;-", "3 5 none", "3 5 []", "3 5 0",
    # Statements.
    "3 5 at", "3 5 at:", "3 5 at:1", "3 5 at:1:", "3 5 at::1", "3 5 at:1:2:3", "3 5 at:a:1", "3 5 at:1:a",
    "3 5 at:01:1", "3 5 at:1:-0", "3 5 at:+1:1", "3 5 at:1000000000:1", "3 5 at:1:1000000000", "3 5 At:1:1",
    "3 5 lease", "3 5 lease:", "3 5 lease:1:2", "3 5 lease:a", "3 5 lease:01", "3 5 lease:-0", "3 5 lease:+1",
    "3 5 lease:1000000000", "3 5 leased:1", "3 5 :1", "3 5 :1:2", "3 5 beat:1:2", "3 5 1", "3 5 1:2",
    "3 5 at:1:2;", "3 5 ;at:1:2", "3 5 at:1:2;;lease:1", "3 5 at:1:2,lease:1", "3 5 at:1:2 lease:1",
    "3 5 at,1,2", "3 5 at=1=2", "3 5 lease 1", "3 5 at:1:2:", "3 5 lease:1:", "3 5 ;", "3 5 any", "3 5 any:0",
    "3 5 at:none:1", "3 5 lease:none", "3 5 (at:1:2)", "3 5 [at:1:2]", "3 5 lease: 1",
]


class Answers(unittest.TestCase):
    def malformed(self, text, questions):
        with self.assertRaises(Malformed, msg=repr((text, questions))) as caught:
            read_answer(text, questions)
        self.assertEqual(caught.exception.index, 0)
        self.assertIsInstance(caught.exception, CacheError)

    def test_written(self):
        for answer, questions, text in WRITTEN:
            self.assertEqual(write_answer(answer, questions), text)

    def test_read(self):
        for answer, questions, text in WRITTEN:
            self.assertEqual(read_answer(text, questions), answer)

    def test_the_kinds_of_the_parts(self):
        for answer, questions, text in WRITTEN:
            results, moment, evidence = read_answer(text, questions)
            self.assertEqual([type(part) for part in (results, moment, evidence)], [list, int, list])
            self.assertEqual({type(statement) for statement in evidence} - {tuple}, set())

    def test_results_of_each_question(self):
        for question, result, text in RESULTS:
            answer = ([result], 2, [])
            self.assertEqual(write_answer(answer, [question]), "2 " + text + " -")
            self.assertEqual(read_answer("2 " + text + " -", [question]), answer)

    def test_wrong_results(self):
        for written, texts in WRONG_RESULTS.items():
            question = tuple(written.split(":"))
            for text in texts:
                self.malformed("2 " + text + " -", [question])
                self.malformed("2 0;" + text + " -", [SUM, question])
                self.malformed("2 " + text + ";0 -", [question, SUM])

    def test_results_of_the_kind_of_another_question(self):
        for asked, _, _ in RESULTS:
            for question, result, text in RESULTS:
                kinds = {question[0], asked[0]}
                integers = isinstance(result, int) and kinds <= {"get", "count", "sum"}
                if asked[0] == question[0] or integers or (result is None and kinds <= {"get", "least"}):
                    self.assertEqual(read_answer("2 " + text + " -", [asked])[0], [result])
                else:
                    self.malformed("2 " + text + " -", [asked])

    def test_wrong_forms(self):
        for text in WRONG:
            self.malformed(text, [GET])

    def test_too_few_and_too_many_results(self):
        for count in range(1, 5):
            for given in range(1, 7):
                text = "1 " + ";".join(["5"] * given) + " -"
                if given == count:
                    self.assertEqual(read_answer(text, [GET] * count), ([5] * count, 1, []))
                else:
                    self.malformed(text, [GET] * count)

    def test_the_order_of_the_results(self):
        self.assertEqual(read_answer("1 [];3 -", [LIST, GET]), ([(), 3], 1, []))
        self.malformed("1 3;[] -", [LIST, GET])
        self.malformed("1 [];3 -", [GET, LIST])

    def test_the_number_of_statements_is_free(self):
        for count in [1, 2, 3, 5, 20]:
            text = "1 5 " + ";".join(["at:1:1"] * count)
            self.assertEqual(read_answer(text, [GET])[2], [("at", 1, 1)] * count)

    def test_whether_the_answer_is_right_does_not_matter(self):
        found = read_answer("-5 [zz=1];-1;(x=5) lease:-1", [("list", "a", "b"), COUNT, LEAST])
        self.assertEqual(found, ([(("zz", 1),), -1, ("x", 5)], -5, [("lease", -1)]))
        self.assertEqual(write_answer(found, [("list", "a", "b"), COUNT, LEAST]), "-5 [zz=1];-1;(x=5) lease:-1")

    def test_spaces_and_parts(self):
        for _, questions, text in WRITTEN:
            parts = text.split(" ")
            for at in range(3):
                self.malformed(" ".join(parts[:at] + parts[at + 1:]), questions)
                self.malformed(" ".join(parts[:at] + [""] + parts[at + 1:]), questions)
            for at in range(4):
                for more in ["", "0", "-"]:
                    self.malformed(" ".join(parts[:at] + [more] + parts[at:]), questions)

    def test_every_small_change_of_a_text_is_another_answer_or_wrong(self):
        for answer, questions, text in WRITTEN:
            for at in range(len(text) + 1):
                for c in " 0-+a=:,;[]()":
                    for changed in [text[:at] + c + text[at:], text[:at] + c + text[at + 1:]]:
                        try:
                            found = read_answer(changed, questions)
                        except Malformed:
                            continue
                        self.assertEqual(write_answer(found, questions), changed)
                        self.assertEqual(found == answer, changed == text)

    def test_answers_of_mixed_worlds(self):
        chance = seeded(85)
        tried = 0
        for _ in range(40):
            world = some_world(chance)
            for _ in range(150):
                for told in try_event(world, some_event(chance, world)) or []:
                    if told[0] == "answered":
                        _, (_, _, questions, _), answer = told
                        text = write_answer(answer, questions)
                        self.assertEqual(read_answer(text, questions), answer)
                        tried += 1
        self.assertGreater(tried, 50)

    def test_nothing_is_modified(self):
        answer, questions = ([5, None], 2, [("lease", 0)]), [GET, LEAST]
        text = write_answer(answer, questions)
        found = read_answer(text, questions)
        found[0].append(1)
        found[2].append(("lease", 1))
        self.assertEqual((answer, questions), (([5, None], 2, [("lease", 0)]), [GET, LEAST]))
        self.assertEqual(read_answer(text, questions), answer)


if __name__ == "__main__":
    unittest.main()
