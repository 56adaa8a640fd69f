"""Points 78 and 79."""

import unittest

from leasehall.errors import Malformed
from leasehall.notation import read_event, read_history, write_event, write_history
from leasehall.world import World
from samples import seeded
from worlds import some_event, some_world, try_event, world_state

ANY = ("any",)
WRITTEN = [
    (("pass", 1), "pass 1"),
    (("pass", 20), "pass 20"),
    (("beat",), "beat"),
    (("drift", 0, -9), "drift 0 -9"),
    (("drift", 3, 0), "drift 3 0"),
    (("drift", 1, 9), "drift 1 9"),
    (("deliver", 0), "deliver 0"),
    (("deliver", 399), "deliver 399"),
    (("lose", 17), "lose 17"),
    (("double", 2), "double 2"),
    (("read", 1, "s", [("get", "a"), ("sum", "a", "f")], ("age", 5)), "read 1 s get:a,sum:a:f age 5"),
    (("read", 0, "abcdefgh", [("list", "zz", "a")], ANY), "read 0 abcdefgh list:zz:a any"),
    (("read", 0, "any", [("get", "any")], ("newest",)), "read 0 any get:any newest"),
    (
        ("read", 2, "z", [("count", "a", "b"), ("least", "b", "abcdefgh"), ("get", "c"), ("get", "c")], ANY),
        "read 2 z count:a:b,least:b:abcdefgh,get:c,get:c any",
    ),
    (("read", 0, "s", [("get", "a")], ("age", 0)), "read 0 s get:a age 0"),
    (("read", 0, "s", [("get", "a")], ("age", 200)), "read 0 s get:a age 200"),
    (("write", 0, "s", (("a", 1), ("b", None))), "write 0 s a=1,b=none"),
    (("write", 3, "t", (("none", -999),)), "write 3 t none=-999"),
    (
        ("write", 0, "s", tuple((key, number) for number, key in enumerate(["a", "aa", "ab", "b", "c", "zz"]))),
        "write 0 s a=0,aa=1,ab=2,b=3,c=4,zz=5",
    ),
    (("write", 0, "s", (("a", 999),)), "write 0 s a=999"),
    (("nudge", 2), "nudge 2"),
    (("give_up", 31), "give_up 31"),
    (("fall", 0), "fall 0"),
    (("rise", 3), "rise 3"),
    (("store_fall",), "store_fall"),
    (("store_rise",), "store_rise"),
]
WRONG = [
    "", " ", "x", "BEAT", "Beat", "world 0 1 5", "beat ", " beat", "beat 1", "beat beat", "beat\n",
    "pass", "pass ", "pass 0", "pass 21", "pass -1", "pass 1 1", "pass  1", "pass 1 ", " pass 1",
    "pass 01", "pass +1", "pass -0", "pass x", "pass 1.0", "pass 1e1", "pass 0x1", "pass none",
    "pass\t1", "pass,1", "pass 1_0", "pass --1", "pass -", "pass 1-",
    "drift 0", "drift 0 10", "drift 0 -10", "drift 0 -0", "drift 0 +1", "drift -1 0", "drift 0 1 1",
    "drift 0 01", "drift 0 -01", "drift 0  1",
    "deliver", "deliver -1", "deliver 00", "deliver 01", "deliver a", "deliver 1 2", "lose -1",
    "double -1", "lose", "double", "lose 1 1", "double 1 1", "deliver 1000000", "deliver 0000001",
    "read 0 s get:a", "read 0 s get:a any any", "read 0 s get:a age", "read 0 s get:a age 201",
    "read 0 s get:a age -1", "read 0 s get:a age 05", "read 0 s get:a age 5 5", "read 0 s get:a any 5",
    "read 0 s get:a newest 5", "read 0 s get:a old", "read 0 s get:a age:5", "read 0 s  any",
    "read 0 s get:a  any", "read 0 s any", "read 0  get:a any", "read s get:a any", "read 0 s get:a any ",
    "read -1 s get:a any", "read 01 s get:a any", "read 1000000 s get:a any", "read",
    "read 0 S get:a any", "read 0 abcdefghi get:a any", "read 0 s1 get:a any", "read 0 s get any",
    "read 0 s get: any", "read 0 s get:a:b any", "read 0 s sum:a any", "read 0 s sum:a:b:c any",
    "read 0 s sum::b any", "read 0 s get:abcdefghi any", "read 0 s get:A any", "read 0 s top:1:a:b any",
    "read 0 s where:1:2:a:b any", "read 0 s get:a, any", "read 0 s ,get:a any", "read 0 s get:a,,get:b any",
    "read 0 s get:a,get:a,get:a,get:a,get:a any", "read 0 s max:a:b any", "read 0 s get:a;get:b any",
    "read 0 s get:a get:b any", "read 0 s get:a Any", "read 0 s get:a age +5", "read 0 s get:1 any",
    "write 0 s", "write 0 s ", "write 0 s a", "write 0 s a=", "write 0 s =1", "write 0 s a=1=1",
    "write 0 s a=1,", "write 0 s ,a=1", "write 0 s a=1,,b=1", "write 0 s a=1 b=1", "write 0 s b=1,a=1",
    "write 0 s a=1,a=2", "write 0 s a=1000", "write 0 s a=-1000", "write 0 s a=01", "write 0 s a=-0",
    "write 0 s a=+1", "write 0 s a=None", "write 0 s a=none1", "write 0 s A=1", "write 0 s abcdefghi=1",
    "write 0 s a=1,b=1,c=1,d=1,e=1,f=1,g=1", "write 0 s a=1 x", "write -1 s a=1", "write 00 s a=1",
    "write 0 S a=1", "write 0  a=1", "write 1000000 s a=1", "write 0 s a= 1", "write 0 s a:1", "write",
    "nudge", "nudge -1", "nudge 0 0", "nudge 1000000", "give_up", "give_up -1", "give_up 1 1", "giveup 1",
    "fall", "fall -1", "fall 0 0", "rise", "rise -1", "rise 0 0", "rise none",
    "store_fall 0", "store_rise 0", "store fall", "store_fall ", "calm_round", "pass " + "1" * 390,
    "write 0 s a==1", "nudge 1:2", "nudge 1,2",
]


class Malforms(unittest.TestCase):
    def malformed(self, index, function, *arguments):
        with self.assertRaises(Malformed) as caught:
            function(*arguments)
        self.assertEqual(caught.exception.index, index, arguments)


class Events(Malforms):
    def test_each_event_written(self):
        for event, line in WRITTEN:
            self.assertEqual(write_event(event), line)

    def test_each_event_read(self):
        for event, line in WRITTEN:
            found = read_event(line)
            self.assertEqual(found, event)
            self.assertIs(type(found), tuple)

    def test_the_kinds_of_the_parts(self):
        _, host, session, questions, promise = read_event("read 1 s get:a,sum:a:f age 5")
        self.assertEqual([type(part) for part in (host, session, questions, promise)], [int, str, list, tuple])
        self.assertEqual([type(question) for question in questions], [tuple, tuple])
        _, _, _, group = read_event("write 0 s a=1,b=none")
        self.assertEqual([type(part) for part in (group, group[0])], [tuple, tuple])

    def test_wrong_forms(self):
        for line in WRONG:
            self.malformed(0, read_event, line)

    def test_every_small_change_of_a_line_is_the_other_event_or_wrong(self):
        for event, line in WRITTEN:
            for at in range(len(line) + 1):
                for c in " 0-+a=:,":
                    changed = line[:at] + c + line[at:]
                    try:
                        found = read_event(changed)
                    except Malformed as error:
                        self.assertEqual(error.index, 0)
                        continue
                    self.assertEqual(write_event(found), changed)
                    self.assertNotEqual(found, event)

    def test_six_digits_and_seven(self):
        for word in ["deliver", "lose", "double", "nudge", "give_up", "fall", "rise"]:
            self.assertEqual(read_event(word + " 999999"), (word, 999999))
            self.assertEqual(read_event(word + " 100000"), (word, 100000))
            self.malformed(0, read_event, word + " 1000000")
            self.malformed(0, read_event, word + " 9999999")
            self.malformed(0, read_event, word + " 0999999")
        self.assertEqual(read_event("drift 999999 1"), ("drift", 999999, 1))
        self.malformed(0, read_event, "drift 1000000 1")
        self.assertEqual(read_event("write 999999 s a=1"), ("write", 999999, "s", (("a", 1),)))
        self.assertEqual(read_event("read 999999 s get:a any")[1], 999999)

    def test_integers_at_their_bounds_and_one_beyond(self):
        for form, least, most in [
            ("pass {}", 1, 20), ("drift 0 {}", -9, 9), ("read 0 s get:a age {}", 0, 200),
            ("write 0 s a={}", -999, 999),
        ]:
            for number in [least, most]:
                line = form.format(number)
                self.assertEqual(write_event(read_event(line)), line)
            for number in [least - 1, most + 1]:
                self.malformed(0, read_event, form.format(number))

    def test_lengths_at_their_bounds_and_one_beyond(self):
        self.assertEqual(read_event("read 0 abcdefgh get:a any")[2], "abcdefgh")
        self.assertEqual(read_event("write 0 s abcdefgh=1")[3], (("abcdefgh", 1),))
        four, six = ",".join(["get:a"] * 4), "a=1,b=1,c=1,d=1,e=1,f=1"
        self.assertEqual(len(read_event("read 0 s " + four + " any")[3]), 4)
        self.assertEqual(len(read_event("write 0 s " + six)[3]), 6)
        self.malformed(0, read_event, "read 0 s " + four + ",get:a any")
        self.malformed(0, read_event, "write 0 s " + six + ",g=1")

    def test_writing_modifies_nothing(self):
        event = ("read", 1, "s", [("get", "a")], ANY)
        write_event(event)
        self.assertEqual(event, ("read", 1, "s", [("get", "a")], ANY))

    def test_lists_that_are_read_are_new(self):
        read_event("read 0 s get:a any")[3].append(("get", "b"))
        self.assertEqual(read_event("read 0 s get:a any")[3], [("get", "a")])


class Histories(Malforms):
    def test_a_new_world(self):
        self.assertEqual(write_history(World([5, 400], 3, 20)), ["world 3 20 5 400"])
        self.assertEqual(world_state(read_history(["world 3 20 5 400"])), world_state(World([5, 400], 3, 20)))

    def test_bounds_of_the_first_line(self):
        for line, made_of in [
            ("world 0 1 1", ([1], 0, 1)),
            ("world 9 50 400 400 400 400", ([400, 400, 400, 400], 9, 50)),
        ]:
            self.assertEqual(read_history([line]).setup(), made_of)

    def test_wrong_first_lines(self):
        for line in [
            "", "world", "world 0", "world 0 1", "world 0 1 ", "world  0 1 1", " world 0 1 1", "world 0 1 1 ",
            "world -1 1 1", "world 10 1 1", "world 0 0 1", "world 0 51 1", "world 0 1 0", "world 0 1 401",
            "world 0 1 5 0", "world 0 1 5 5 5 5 5", "world 00 1 1", "world 0 01 1", "world 0 1 01", "world -0 1 1",
            "world +0 1 1", "world 0 1 x", "world x 1 1", "world 0 x 1", "World 0 1 1", "wor 0 1 1", "beat",
            "world 0 1 1,1", "world 0 1 none", "world 0 1 -5", "pass 1 1 1", "world 0 1 1000000",
        ]:
            for more in [[], ["beat"], ["wrong"]]:
                self.malformed(0, read_history, [line] + more)

    def test_the_empty_list(self):
        self.malformed(0, read_history, [])

    def test_a_history(self):
        lines = [
            "world 3 20 5 400", "write 0 s a=1,b=none", "deliver 0", "pass 2", "drift 1 -3",
            "read 1 t get:a,sum:a:f age 5", "beat", "deliver 0", "nudge 1", "double 0", "lose 1", "fall 0",
            "rise 0", "store_fall", "store_rise", "give_up 0",
        ]
        world = read_history(lines)
        self.assertEqual(write_history(world), lines)
        self.assertEqual(world.time(), 2)
        self.assertEqual(world.store().ledger(), [(0, (("a", 1), ("b", None)))])
        self.assertEqual(world.history()[0], ("write", 0, "s", (("a", 1), ("b", None))))

    def test_the_index_of_a_wrong_line(self):
        lines = ["world 3 20 5 400", "beat", "pass 1", "beat", "pass 1"]
        for at in range(1, 5):
            for wrong in WRONG[:40] + ["nudge 2", "fall 999999"]:
                self.malformed(at, read_history, lines[:at] + [wrong] + lines[at + 1:])

    def test_events_that_raise(self):
        first = "world 3 20 5 400"
        for lines in [
            ["nudge 2"], ["deliver 0"], ["lose 0"], ["double 0"], ["give_up 0"], ["rise 0"], ["store_rise"],
            ["drift 2 0"], ["read 2 s get:a any"], ["write 2 s a=1"], ["fall 2"], ["rise 2"],
            ["fall 1", "fall 1"], ["fall 1", "nudge 1"], ["fall 1", "write 1 s a=1"],
            ["fall 1", "read 1 s get:a any"], ["store_fall", "store_fall"], ["beat", "deliver 2"],
            ["beat"] * 200 + ["double 0"],
        ]:
            self.malformed(len(lines), read_history, [first] + lines)

    def test_an_error_beyond_the_bound_of_the_world(self):
        for bound in [0, 3, 9]:
            first = "world " + str(bound) + " 20 5 400"
            for error in [-bound, bound]:
                world = read_history([first, "drift 1 " + str(error)])
                self.assertEqual(world.reading(1), error)
            for error in [-bound - 1, bound + 1]:
                self.malformed(2, read_history, [first, "beat", "drift 1 " + str(error)])

    def test_the_first_one_of_several_faults(self):
        first = "world 3 20 5 400"
        self.malformed(2, read_history, [first, "beat", "nudge 2", "x"])
        self.malformed(2, read_history, [first, "beat", "x", "nudge 2"])
        self.malformed(1, read_history, [first, "drift 0 4", "x", "nudge 2"])
        self.malformed(0, read_history, ["world 3 20", "x"])

    def test_the_lines_are_not_modified(self):
        lines = ["world 3 20 5 400", "beat"]
        read_history(lines)
        self.assertEqual(lines, ["world 3 20 5 400", "beat"])

    def test_histories_of_mixed_worlds(self):
        chance = seeded(79)
        for _ in range(40):
            world = some_world(chance)
            for _ in range(120):
                try_event(world, some_event(chance, world))
            if chance.random() < 0.5:
                world.calm_round()
            lines = write_history(world)
            self.assertEqual(len(lines), 1 + len(world.history()))
            again = read_history(lines)
            self.assertEqual(world_state(again), world_state(world))
            self.assertEqual(write_history(again), lines)
            for event, line in zip(world.history(), lines[1:]):
                self.assertEqual((write_event(event), read_event(line)), (line, event))


if __name__ == "__main__":
    unittest.main()
