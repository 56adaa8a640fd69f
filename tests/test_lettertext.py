"""Point 84, and point 2 for letters as text."""

import unittest

from leasehall.errors import CacheError, Malformed
from leasehall.lettertext import read_letter, write_letter
from result_texts import BIG, RESULTS, WRONG_RESULTS
from samples import seeded
from worlds import some_event, some_world, try_event

GROUP = tuple((key, number) for number, key in enumerate(["a", "aa", "ab", "b", "c", "zz"]))

# Each kind of letter with its line.
WRITTEN = [
    (("fetch", 0, 0, 0, ("get", "a")), "fetch 0 0 0 get:a"),
    (("fetch", 3, 12, 7, ("list", "a", "abcdefgh")), "fetch 3 12 7 list:a:abcdefgh"),
    (("fetch", 0, 0, 0, ("count", "b", "a")), "fetch 0 0 0 count:b:a"),
    (("fetch", 0, 0, 0, ("sum", "none", "get")), "fetch 0 0 0 sum:none:get"),
    (("fetch", 0, 0, 0, ("least", "a", "z")), "fetch 0 0 0 least:a:z"),
    (("write", 1, 0, 2, (("a", 1), ("b", None))), "write 1 0 2 a=1,b=none"),
    (("write", 0, -1, 3, (("none", -999),)), "write 0 -1 3 none=-999"),
    (("write", 0, 0, BIG, GROUP), "write 0 0 999999999 a=0,aa=1,ab=2,b=3,c=4,zz=5"),
    (("lease", 2, 1, 0, ("a", "c")), "lease 2 1 0 a:c"),
    (("lease", 2, 1, 0, ("zz", "a")), "lease 2 1 0 zz:a"),
    (("return", 0, 1, 30), "return 0 1 30"),
    (("missing", 1, 2, 200), "missing 1 2 200"),
    (("missing", 1, 2, -5), "missing 1 2 -5"),
    (("written", 0, 1, 2, 3, 4), "written 0 1 2 3 4"),
    (("leased", 0, 1, 2, 3, ("a", "b"), 4, 5, 6), "leased 0 1 2 3 a:b 4 5 6"),
    (("leased", 0, 0, 0, BIG, ("a", "a"), -BIG, 0, 0), "leased 0 0 0 999999999 a:a -999999999 0 0"),
    (("denied", 1, 2, 3), "denied 1 2 3"),
    (("recall", 3, 2, 1), "recall 3 2 1"),
    (("note", 1, 5, 9, (("c", 999),)), "note 1 5 9 c=999"),
    (("beat", 1, 17, 200), "beat 1 17 200"),
    (("beat", -1, -17, -200), "beat -1 -17 -200"),
]

ANSWERS = [
    (
        ("answer", 1, 0, 2, question, result, 3, 4),
        "answer 1 0 2 " + ":".join(question) + " " + text + " 3 4",
    )
    for question, result, text in RESULTS
]

WRONG = [
    "", " ", "x", "Fetch 0 0 0 get:a", "FETCH 0 0 0 get:a", "fetches 0 0 0 get:a", "0 0 0 0 get:a",
    "fetch", "fetch ", "time 5", "read 0 s get:a any", "beat", "none 0 0 0", "world 0 1 5",
    # Integers.
    "denied 0 0 01", "denied 0 0 -0", "denied 0 0 00", "denied 0 0 +1", "denied 0 0 1000000000",
    "denied 0 0 -1000000000", "denied 0 0 -01", "denied 0 0 0000000001", "denied 0 0 --1",
    "denied 0 0 -", "denied 0 0 1-", "denied 0 0 x", "denied 0 0 none", "denied 0 0 1.0",
    "denied 0 0 1_0", "denied 0 0 1e1", "denied 0 0 0x1", "denied 0 0 1,1", "denied 0 0 ",
    "denied  0 0", "denied a 0 0", "denied 0 a 0", "denied 01 0 0", "denied 0 -0 0", "denied 0 0 1\n",
    # Covers.
    "lease 0 0 0 a", "lease 0 0 0 a:", "lease 0 0 0 :a", "lease 0 0 0 :", "lease 0 0 0 a:b:c",
    "lease 0 0 0 ab", "lease 0 0 0 a=b", "lease 0 0 0 a,b", "lease 0 0 0 a b", "lease 0 0 0 a::b",
    "lease 0 0 0 A:b", "lease 0 0 0 a:B", "lease 0 0 0 a:1", "lease 0 0 0 abcdefghi:a",
    "lease 0 0 0 a:abcdefghi", "lease 0 0 0 0", "lease 0 0 0 get:a:b", "lease 0 0 0 none",
    # Questions.
    "fetch 0 0 0 a", "fetch 0 0 0 get", "fetch 0 0 0 get:", "fetch 0 0 0 get:a:b", "fetch 0 0 0 sum:a",
    "fetch 0 0 0 sum:a:b:c", "fetch 0 0 0 sum::b", "fetch 0 0 0 max:a:b", "fetch 0 0 0 top:1:a:b",
    "fetch 0 0 0 where:1:2:a:b", "fetch 0 0 0 get:A", "fetch 0 0 0 get:abcdefghi", "fetch 0 0 0 Get:a",
    "fetch 0 0 0 get:a,get:b", "fetch 0 0 0 get:1", "fetch 0 0 0 5", "fetch 0 0 0 a:b", "fetch 0 0 0 ",
    "fetch 0 0 0 list:a:", "fetch 0 0 0 none", "fetch 0 0 0 get=a",
    # Groups.
    "write 0 0 0 a", "write 0 0 0 a=", "write 0 0 0 =1", "write 0 0 0 a=1,", "write 0 0 0 ,a=1",
    "write 0 0 0 a=1,,b=1", "write 0 0 0 b=1,a=1", "write 0 0 0 a=1,a=1", "write 0 0 0 a=1000",
    "write 0 0 0 a=-1000", "write 0 0 0 a=01", "write 0 0 0 a=-0", "write 0 0 0 a=+1",
    "write 0 0 0 a=None", "write 0 0 0 A=1", "write 0 0 0 abcdefghi=1", "write 0 0 0 a:1",
    "write 0 0 0 a=1,b=1,c=1,d=1,e=1,f=1,g=1", "write 0 0 0 []", "write 0 0 0 [a=1]", "write 0 0 0 none",
    "write 0 0 0 (a=1)", "write 0 0 0 a=1=1", "write 0 0 0 5", "note 0 1 2 a=1000", "note 0 1 2 b=1,a=1",
    "note 0 1 2 a:b", "write 0 0 0 ", "note 0 1 2 ", "write 0 0 0 a=1;b=1",
    # Words and parts at the place of others.
    "write 0 0 0 get:a", "fetch 0 0 0 a=1", "lease 0 0 0 a=1", "beat 0 0 a:b", "recall 0 0 get:a",
    "leased 0 0 0 0 1 2 3 4", "leased 0 0 0 a:b 0 2 3 4", "answer 0 0 0 5 get:a 0 0", "beat 0 a 0",
    "written 0 0 0 a 0", "note 0 a=1 0 0", "missing 0 0 first", "return 0 0 a:b",
]

class Letters(unittest.TestCase):
    def malformed(self, line):
        with self.assertRaises(Malformed, msg=repr(line)) as caught:
            read_letter(line)
        self.assertEqual(caught.exception.index, 0)
        self.assertIsInstance(caught.exception, CacheError)

    def test_the_twelve_kinds(self):
        kinds = {letter[0] for letter, _ in WRITTEN + ANSWERS}
        self.assertEqual(len(kinds), 12)

    def test_written(self):
        for letter, line in WRITTEN + ANSWERS:
            self.assertEqual(write_letter(letter), line)

    def test_read(self):
        for letter, line in WRITTEN + ANSWERS:
            found = read_letter(line)
            self.assertEqual(found, letter)
            self.assertEqual([type(part) for part in found], [type(part) for part in letter])

    def test_the_kinds_of_the_parts(self):
        self.assertEqual(type(read_letter("write 0 0 0 a=1,b=none")[4][0]), tuple)
        self.assertEqual(type(read_letter("answer 0 0 0 list:a:b [a=1] 0 0")[5][0]), tuple)

    def test_wrong_forms(self):
        for line in WRONG:
            self.malformed(line)

    def test_wrong_results(self):
        for question, texts in WRONG_RESULTS.items():
            for text in texts:
                self.malformed("answer 0 0 0 " + question + " " + text + " 1 2")

    def test_a_part_left_out_and_a_part_more(self):
        for _, line in WRITTEN + ANSWERS:
            parts = line.split(" ")
            for at in range(len(parts)):
                self.malformed(" ".join(parts[:at] + parts[at + 1:]))
            for at in range(len(parts) + 1):
                self.malformed(" ".join(parts[:at] + ["0"] + parts[at:]))
            for part in ["", "a", "get:a", "none", parts[-1]]:
                self.malformed(" ".join(parts + [part]))

    def test_spaces(self):
        for _, line in WRITTEN + ANSWERS:
            for at, c in enumerate(line):
                if c == " ":
                    self.malformed(line[:at] + " " + line[at:])
                    self.malformed(line[:at] + line[at + 1:])
                    self.malformed(line[:at] + "\t" + line[at + 1:])
            for wrong in [" " + line, line + " ", line + "\n", line + " \n", "\n" + line]:
                self.malformed(wrong)

    def test_each_integer(self):
        """Every part that is an integer may be negative, and has at most 9 digits."""
        tried = 0
        for _, line in WRITTEN:
            parts = line.split(" ")
            for at, part in enumerate(parts):
                if part.lstrip("-").isdigit():
                    tried += 1
                    for number in ["0", "-1", "12345678", "123456789", "-123456789", "1000000"]:
                        changed = " ".join(parts[:at] + [number] + parts[at + 1:])
                        self.assertEqual(read_letter(changed)[at], int(number))
                        self.assertEqual(write_letter(read_letter(changed)), changed)
                    for wrong in ["01", "-0", "+1", "1234567890", "-1234567890", "x", "", "none", "-"]:
                        self.malformed(" ".join(parts[:at] + [wrong] + parts[at + 1:]))
        self.assertGreater(tried, 60)

    def test_keys_of_one_and_of_eight_characters(self):
        for form in ["fetch 0 0 0 get:{}", "lease 0 0 0 a:{}", "lease 0 0 0 {}:a", "write 0 0 0 {}=1",
                     "answer 0 0 0 list:a:b [{}=1] 0 0", "answer 0 0 0 least:a:{} none 0 0"]:
            for key in ["a", "z", "abcdefgh", "zzzzzzzz"]:
                line = form.format(key)
                self.assertEqual(write_letter(read_letter(line)), line)
            for key in ["", "abcdefghi", "A", "a1", "1", "a-", "{", "`"]:
                self.malformed(form.format(key))

    def test_values_at_their_bounds(self):
        for form in ["write 0 0 0 a={}", "note 0 1 2 a={}"]:
            for value in ["999", "-999", "0", "none"]:
                self.assertEqual(write_letter(read_letter(form.format(value))), form.format(value))
            for value in ["1000", "-1000", "999999999"]:
                self.malformed(form.format(value))

    def test_every_small_change_of_a_line_is_another_letter_or_wrong(self):
        for letter, line in WRITTEN + ANSWERS:
            for at in range(len(line) + 1):
                for c in " 0-+a=:,;[]()":
                    for changed in [line[:at] + c + line[at:], line[:at] + c + line[at + 1:]]:
                        try:
                            found = read_letter(changed)
                        except Malformed as error:
                            self.assertEqual(error.index, 0)
                            continue
                        self.assertEqual(write_letter(found), changed)
                        self.assertEqual(found == letter, changed == line)

    def test_long_lines(self):
        keys = sorted({a + b + c for a in "abcdefgh" for b in "abcdefgh" for c in "abcdefgh"})
        letter = ("answer", 0, 0, 0, ("list", "a", "z"), tuple((key, 5) for key in keys), 1, 2)
        line = write_letter(letter)
        self.assertGreater(len(line), 3000)
        self.assertEqual(read_letter(line), letter)
        self.malformed(line[:-1] + "x")
        self.malformed("denied 0 0 " + "1" * 5000)

    def test_letters_of_mixed_worlds(self):
        chance = seeded(84)
        kinds = set()
        for _ in range(25):
            world = some_world(chance)
            for _ in range(120):
                try_event(world, some_event(chance, world))
            for _, letter in world.letters():
                kinds.add(letter[0])
                self.assertEqual(read_letter(write_letter(letter)), letter)
        self.assertEqual(len(kinds), 12)


if __name__ == "__main__":
    unittest.main()
