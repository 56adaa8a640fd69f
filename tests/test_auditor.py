"""Point 88, and point 2 for the auditor."""

import copy
import unittest

from leasehall.auditor import Auditor, audit

READ = "read 0 s get:a any"
# A ledger with two commits at the time 5.
COMMITS = ["commit 1 0 a=1", "time 5", "commit 2 5 b=2,c=none"]
LEASE = "lease 0 3 1 a:c 12 0 0"


def auditor_after(*lines):
    """An auditor that has read lines without a fault."""
    auditor = Auditor()
    for line in lines:
        word = auditor.read(line)
        if word is not None:
            raise AssertionError((line, word))
    return auditor


def state(auditor):
    return copy.deepcopy((auditor.ledger(), auditor.time(), auditor.floors()))


class Audits(unittest.TestCase):
    def words(self, before, lines, word):
        """Each line gets the word behind the lines before, and changes nothing there."""
        for line in lines:
            auditor = auditor_after(*before)
            kept = state(auditor)
            self.assertEqual(auditor.read(line), word, (before, line))
            self.assertEqual(state(auditor), kept, line)
            self.assertEqual(auditor.findings(), [(len(before), word)])


class Keeping(unittest.TestCase):
    """What lines without a fault do."""

    def test_the_beginning(self):
        auditor = Auditor()
        self.assertEqual(state(auditor), ([], 0, {}))
        self.assertEqual(auditor.findings(), [])
        self.assertEqual(audit([]), [])

    def test_time(self):
        auditor = auditor_after("time 1", "time 5", "time 999999999")
        self.assertEqual(auditor.time(), 999999999)

    def test_commits(self):
        auditor = auditor_after(*COMMITS, "commit 3 5 a=none")
        expected = [(0, (("a", 1),)), (5, (("b", 2), ("c", None))), (5, (("a", None),))]
        self.assertEqual(auditor.ledger(), expected)

    def test_leases_and_returns(self):
        lines = [LEASE, "lease 1 0 0 x:y 0 0 0", "lease 2 0 0 z:a -5 0 0", "returned 1", "returned 0", "returned 2"]
        auditor = auditor_after(*lines)
        self.assertEqual(state(auditor), ([], 0, {}))

    def test_a_lease_may_have_any_host_incarnation_and_until(self):
        auditor_after("lease 0 -3 -1 b:a -999999999 0 0", "lease 1 999999999 7 a:a 999999999 0 0")

    def test_floors_after_written_lines(self):
        auditor = auditor_after(*COMMITS, "written s 1", "written t 0")
        self.assertEqual(auditor.floors(), {"s": 1})
        auditor.read("written s 2")
        auditor.read("written u 2")
        auditor.read("written s 1")
        self.assertEqual(auditor.floors(), {"s": 2, "u": 2})
        self.assertEqual(auditor.findings(), [])

    def test_floors_after_answer_lines(self):
        auditor = auditor_after(*COMMITS, READ, "read 1 s get:a any", "read 2 t get:x any", "read 3 s get:b any")
        floors = []
        for line in ["answer 0 1 1 -", "answer 1 2 1 -", "answer 2 0 none -", "answer 3 2 2 -"]:
            self.assertIsNone(auditor.read(line))
            floors.append(auditor.floors())
        self.assertEqual(floors, [{"s": 1}, {"s": 2}, {"s": 2}, {"s": 2}])

    def test_reads_of_each_promise_and_question(self):
        auditor_after(
            "read 0 s get:a any", "read 1 abcdefgh sum:a:b,count:b:a,list:a:abcdefgh,least:a:a newest",
            "read 2 s get:a age 0", "read 3 s get:a age 200",
        )

    def test_answers_in_another_order_than_the_reads(self):
        auditor_after(
            READ, "read 1 s get:b any", "read 2 s get:c,list:a:z any", "answer 2 0 none;[] -", "answer 0 0 none -",
            "answer 1 0 none -",
        )

    def test_answers_of_each_question(self):
        asked = "sum:a:c,list:a:c,least:a:c,count:a:c"
        auditor_after(*COMMITS, "read 0 s " + asked + " any", "answer 0 2 3;[a=1,b=2];(a=1);2 -")


class Forms(Audits):
    """Lines without a form."""

    def test_lines_of_no_kind(self):
        lines = [
            "", " ", "x", "Time 1", "times 1", "beat", "pass 1", "world 0 1 5", "write 0 s a=1", "deliver 0",
            " time 1", "1 time", "none", "fetch 0 0 0 get:a", "note 0 1 0 a=1", "recall 0 0 0", "answered 0 0 5 -",
        ]
        self.words([], lines, "form")

    def test_time(self):
        lines = [
            "time", "time ", "time 1 ", "time  1", "time 1 1", "time x", "time 01", "time +1", "time -0",
            "time 1000000000", "time -1000000000", "time none", "time 1.0", "time a=1", "time 1\n",
        ]
        self.words([], lines, "form")

    def test_commit(self):
        lines = [
            "commit", "commit 1", "commit 1 0", "commit 1 0 ", "commit 1 0 a", "commit 1 0 a=", "commit 1 0 a=1000",
            "commit 1 0 a=-1000", "commit 1 0 b=1,a=1", "commit 1 0 a=1,a=1", "commit 1 0 a=1 b=1",
            "commit 1 0 a=1 ", "commit 1  a=1", "commit  0 a=1", "commit x 0 a=1", "commit 1 x a=1",
            "commit 01 0 a=1", "commit 1 00 a=1", "commit 1 -0 a=1", "commit 1000000000 0 a=1",
            "commit 1 0 a=1,b=1,c=1,d=1,e=1,f=1,g=1", "commit 1 0 A=1", "commit 1 0 abcdefghi=1", "commit 1 0 -",
            "commit 1 0 a:b", "commit 1 0 [a=1]", "commit a=1 1 0",
        ]
        self.words([], lines, "form")

    def test_lease(self):
        lines = [
            "lease", "lease 0", "lease 0 0 0 a:b 5 0", "lease 0 0 0 a:b 5 0 0 0", "lease 0 0 0 a:b 5 0 0 ",
            "lease 0 0 0 a 5 0 0", "lease 0 0 0 a: 5 0 0", "lease 0 0 0 a:b:c 5 0 0", "lease 0 0 0 A:b 5 0 0",
            "lease 0 0 0 a:abcdefghi 5 0 0", "lease 0 0 0 get:a:b 5 0 0", "lease 0 0 0 5 a:b 0 0",
            "lease 0 0 a:b 5 0 0", "lease x 0 0 a:b 5 0 0", "lease 0 x 0 a:b 5 0 0", "lease 0 0 x a:b 5 0 0",
            "lease 0 0 0 a:b x 0 0", "lease 0 0 0 a:b 5 x 0", "lease 0 0 0 a:b 5 0 x", "lease 00 0 0 a:b 5 0 0",
            "lease 0 0 0 a:b 5 0 -0", "lease 0 0 0 a:b 1000000000 0 0", "lease 0 0 0 a=b 5 0 0",
        ]
        self.words([], lines, "form")

    def test_returned(self):
        lines = ["returned", "returned ", "returned x", "returned 00", "returned 0 0", "returned  0", "returned 0 "]
        self.words([LEASE], lines, "form")

    def test_written(self):
        lines = [
            "written", "written s", "written s ", "written s x", "written s 00", "written s 0 0", "written S 0",
            "written  0", "written abcdefghi 0", "written 0 s", "written 0 0", "written s -0", "written s1 0",
            "written s 1000000000", "written  s 0", "written s 0 ",
        ]
        self.words([], lines, "form")

    def test_read(self):
        lines = [
            "read", "read 0", "read 0 s", "read 0 s get:a", "read 0 s get:a ", "read 0 s get:a any ",
            "read 0 s get:a any any", "read 0 s get:a age", "read 0 s get:a age 201", "read 0 s get:a age -1",
            "read 0 s get:a age 05", "read 0 s get:a age x", "read 0 s get:a age 5 5", "read 0 s get:a age:5",
            "read 0 s get:a newest 0", "read 0 s get:a old", "read 0 s get:a Any", "read 0 S get:a any",
            "read 0 abcdefghi get:a any", "read 0  get:a any", "read 0 s  any", "read 0 s get any",
            "read 0 s get:a:b any", "read 0 s sum:a any", "read 0 s max:a:b any", "read 0 s top:1:a:b any",
            "read 0 s where:0:1:a:b any", "read 0 s get:a, any", "read 0 s get:a;get:b any",
            "read 0 s get:a,get:a,get:a,get:a,get:a any", "read x s get:a any", "read 00 s get:a any",
            "read -0 s get:a any", "read 1000000000 s get:a any", "read s 0 get:a any", "read 0 s get:A any",
        ]
        self.words([], lines, "form")

    def test_answer_for_a_read_that_came(self):
        lines = [
            "answer", "answer 0", "answer 0 0", "answer 0 0 none", "answer 0 0 none - -", "answer 0 0 none - ",
            "answer 0 0 none  -", "answer 0  none -", "answer 0 x none -", "answer 0 00 none -", "answer 0 0 [] -",
            "answer 0 0 (a=1) -", "answer 0 0 none;none -", "answer 0 0  -", "answer 0 0 none ",
            "answer 0 0 none at", "answer 0 0 none at:0", "answer 0 0 none lease:0:0", "answer 0 0 none x:0",
            "answer 0 0 none -;-", "answer 0 0 None -", "answer 0   ", "answer 0 a b c", "answer x 0 none -",
            "answer 00 0 none -", "answer -0 0 none -", "answer  0 none -", "answer 0 1000000000 none -",
        ]
        self.words([READ], lines, "form")

    def test_the_form_goes_by_the_questions_of_the_read(self):
        before = ["read 0 s list:a:b,least:a:b any", "read 1 s get:a any"]
        self.words(before, ["answer 0 0 none;none -", "answer 0 0 [];0 -", "answer 0 0 none -"], "form")
        self.words(before, ["answer 1 0 [];none -", "answer 1 0 [] -"], "form")
        auditor_after(*before, "answer 0 0 [];none -", "answer 1 0 none -")

    def test_the_form_of_an_answer_that_was_told(self):
        self.words([READ, "answer 0 0 none -"], ["answer 0 0 [] -", "answer 0 a b c", "answer 0 0 none"], "form")

    def test_answer_for_a_read_that_did_not_come(self):
        """Five parts of which the second is an integer are the form; then the order is at fault."""
        for before in [[], [READ], [READ, "answer 0 0 none -"]]:
            lines = [
                "answer 1 0 none -", "answer 1 a b c", "answer 1   ", "answer 1 0 [ -", "answer 1 0  -",
                "answer -1 0 none -", "answer -1   ", "answer 999999999 0 0 0", "answer -999999999 - - -",
                "answer 7 -0 01 +1", "answer 1 x  ", "answer 1  x ", "answer 1   x",
            ]
            self.words(before, lines, "order")
            lines = [
                "answer", "answer ", "answer 1", "answer 1 0", "answer 1 0 none", "answer 1 0 none - -",
                "answer 1  ", "answer 1    ", "answer 1 0 none  -", "answer 1 0 none - ", "answer x 0 none -",
                "answer  0 none -", "answer 01 0 none -", "answer -0 0 none -", "answer +1 0 none -",
                "answer 1000000000 0 none -", "answer none 0 none -", "answer    ", "answer s 1 0 none",
            ]
            self.words(before, lines, "form")

    def test_a_form_with_faults_of_other_words(self):
        """The form is the first that applies."""
        self.words(COMMITS, ["time 05", "commit 7 9 a=1000", "lease 7 0 0 a 0 0 0"], "form")
        self.words([LEASE], ["commit 1 0 a=1 ", "commit 9 9 a=01", "returned 07"], "form")
        self.words([READ], ["answer 0 7 [] -", "read 5 s get:a old", "written s x"], "form")


class Orders(Audits):
    """Lines out of order."""

    def test_times_that_do_not_grow(self):
        self.words([], ["time 0", "time -1", "time -999999999"], "order")
        self.words(["time 5"], ["time 5", "time 4", "time 0", "time -5"], "order")
        auditor_after("time 5", "time 6")

    def test_commit_numbers(self):
        self.words([], ["commit 0 0 a=1", "commit 2 0 a=1", "commit -1 0 a=1"], "order")
        self.words(COMMITS, ["commit 2 5 a=1", "commit 4 5 a=1", "commit 1 5 a=1"], "order")
        auditor_after(*COMMITS, "commit 3 5 a=1")

    def test_commit_times(self):
        self.words([], ["commit 1 1 a=1", "commit 1 -1 a=1"], "order")
        self.words(COMMITS, ["commit 3 4 a=1", "commit 3 6 a=1", "commit 3 0 a=1"], "order")

    def test_lease_numbers(self):
        self.words([], ["lease 1 0 0 a:b 5 0 0", "lease -1 0 0 a:b 5 0 0"], "order")
        before = [LEASE, "returned 0"]
        self.words(before, ["lease 0 0 0 a:b 5 0 0", "lease 2 0 0 a:b 5 0 0"], "order")
        auditor_after(*before, "lease 1 0 0 a:b 5 0 0")

    def test_lease_moments(self):
        self.words([], ["lease 0 0 0 a:b 5 1 0", "lease 0 0 0 a:b 5 -1 0"], "order")
        lines = ["lease 0 0 0 a:b 9 1 5", "lease 0 0 0 a:b 9 3 5", "lease 0 0 0 a:b 9 0 5"]
        self.words(COMMITS, lines, "order")
        auditor_after(*COMMITS, "lease 0 0 0 a:b 9 2 5")

    def test_lease_times(self):
        self.words([], ["lease 0 0 0 a:b 5 0 1", "lease 0 0 0 a:b 5 0 -1"], "order")
        self.words(COMMITS, ["lease 0 0 0 a:b 9 2 4", "lease 0 0 0 a:b 9 2 6"], "order")
        self.words(COMMITS, ["lease 0 0 0 a:b 9 5 2"], "order")

    def test_leases_that_do_not_exist_or_were_returned(self):
        self.words([], ["returned 0", "returned -1", "returned 1"], "order")
        self.words([LEASE], ["returned 1", "returned -1"], "order")
        two = [LEASE, "lease 1 0 0 a:b 5 0 0"]
        self.words(two + ["returned 0"], ["returned 0", "returned 2", "returned -1", "returned -2"], "order")
        auditor_after(*two, "returned 1", "returned 0")

    def test_a_lease_that_has_ended_can_be_returned(self):
        auditor_after(LEASE, "time 12", "returned 0")
        self.words([LEASE, "time 12", "returned 0"], ["returned 0"], "order")

    def test_written_moments(self):
        self.words([], ["written s 1", "written s -1"], "order")
        self.words(COMMITS, ["written s 3", "written s -1", "written s -2", "written s 999999999"], "order")
        auditor_after(*COMMITS, "written s 0", "written s 2", "written s 1")

    def test_read_numbers(self):
        self.words([], ["read 1 s get:a any", "read -1 s get:a any"], "order")
        self.words([READ], [READ, "read 0 t get:b newest", "read 2 s get:a any"], "order")
        auditor_after(READ, "read 1 s get:a any")

    def test_answers_that_were_told(self):
        lines = ["answer 0 0 none -", "answer 0 0 5 -", "answer 0 9 none lease:0"]
        self.words([READ, "answer 0 0 none -"], lines, "order")

    def test_order_is_told_before_what_may_follow(self):
        self.words([LEASE], ["commit 2 0 a=1", "commit 1 1 a=1", "commit 0 0 b=1"], "order")
        self.words([READ, "answer 0 0 none -"], ["answer 0 0 7 -"], "order")


class Leases(Audits):
    """Commits that touch the cover of a lease."""

    def test_an_active_lease(self):
        lines = ["commit 1 0 a=1", "commit 1 0 c=none", "commit 1 0 aa=1", "commit 1 0 b=1,x=1"]
        self.words([LEASE], lines, "lease")
        self.words([LEASE, "time 11"], ["commit 1 11 a=1"], "lease")

    def test_other_keys(self):
        auditor_after(LEASE, "commit 1 0 d=1,z=1", "commit 2 0 ca=1")

    def test_a_cover_without_keys(self):
        auditor_after("lease 0 0 0 c:a 12 0 0", "commit 1 0 a=1,b=1,c=1")

    def test_a_lease_that_has_ended(self):
        auditor_after(LEASE, "time 12", "commit 1 12 a=1")
        auditor_after(LEASE, "time 13", "commit 1 13 a=1")
        auditor_after("lease 0 0 0 a:c 0 0 0", "commit 1 0 a=1")

    def test_a_lease_that_was_returned(self):
        auditor_after(LEASE, "returned 0", "commit 1 0 a=1")
        before = [LEASE, "lease 1 0 0 b:d 12 0 0", "returned 0"]
        self.words(before, ["commit 1 0 b=1", "commit 1 0 d=1"], "lease")
        auditor_after(*before, "commit 1 0 a=1")

    def test_each_of_several_leases(self):
        before = ["lease 0 0 0 a:a 5 0 0", "lease 1 0 0 c:c 9 0 0", "time 5"]
        self.words(before, ["commit 1 5 c=1", "commit 1 5 a=1,c=1"], "lease")
        auditor_after(*before, "commit 1 5 a=1")

    def test_a_lease_that_was_granted_at_this_time(self):
        self.words(COMMITS + ["lease 0 0 0 a:a 6 2 5"], ["commit 3 5 a=1"], "lease")


class Answers(Audits):
    """Answers that the checker does not accept."""

    def reads(self, promise, session="s", asked="get:a"):
        return COMMITS + ["time 9", f"read 0 {session} {asked} {promise}"]

    def test_any(self):
        before = self.reads("any")
        lines = [
            "answer 0 1 2 -", "answer 0 1 none -", "answer 0 0 1 -", "answer 0 3 1 -", "answer 0 -1 none -",
            "answer 0 1 1 at:9:2", "answer 0 1 1 lease:0", "answer 0 999999999 1 -",
        ]
        self.words(before, lines, "answer")
        for line in ["answer 0 0 none -", "answer 0 1 1 -", "answer 0 2 1 -"]:
            auditor_after(*before, line)

    def test_age(self):
        before = self.reads("age 4")
        lines = [
            "answer 0 2 1 -", "answer 0 2 1 at:4:1", "answer 0 2 1 at:10:2", "answer 0 2 1 at:9:1",
            "answer 0 1 1 at:9:2", "answer 0 2 1 lease:0", "answer 0 2 1 at:9:2;at:9:2", "answer 0 2 2 at:9:2",
            "answer 0 0 none at:5:1", "answer 0 2 1 at:-1:0", "answer 0 2 1 at:9:3",
        ]
        self.words(before, lines, "answer")
        for line in ["answer 0 2 1 at:9:2", "answer 0 2 1 at:5:1", "answer 0 1 1 at:5:1", "answer 0 2 1 at:5:2"]:
            auditor_after(*before, line)
        self.words(self.reads("age 3"), ["answer 0 1 1 at:5:1"], "answer")

    def test_newest(self):
        before = COMMITS + ["lease 0 0 0 a:b 12 2 5", "lease 1 0 0 c:d 9 2 5"]
        before += ["lease 2 0 0 a:d 12 2 5", "returned 2", "time 9", "read 0 s sum:a:b newest"]
        lines = [
            "answer 0 2 3 -", "answer 0 2 3 lease:1", "answer 0 2 3 lease:2", "answer 0 2 3 lease:3",
            "answer 0 2 3 lease:-1", "answer 0 1 1 lease:0", "answer 0 2 4 lease:0", "answer 0 2 3 at:9:2",
            "answer 0 2 3 lease:0;lease:0",
        ]
        self.words(before, lines, "answer")
        auditor_after(*before, "answer 0 2 3 lease:0")
        self.words(before + ["time 12"], ["answer 0 2 3 lease:0"], "answer")
        auditor_after(*before, "time 11", "answer 0 2 3 lease:0")
        self.words(before + ["returned 0"], ["answer 0 2 3 lease:0"], "answer")

    def test_a_lease_for_each_question_in_order(self):
        before = ["lease 0 0 0 a:a 5 0 0", "lease 1 0 0 b:b 5 0 0", "read 0 s get:a,get:b newest"]
        lines = ["answer 0 0 none;none lease:1;lease:0", "answer 0 0 none;none lease:0"]
        self.words(before, lines, "answer")
        auditor_after(*before, "answer 0 0 none;none lease:0;lease:1")

    def test_the_time_counts(self):
        auditor_after(READ.replace("any", "age 2"), "time 2", "answer 0 0 none at:0:0")
        self.words(["read 0 s get:a age 2", "time 3"], ["answer 0 0 none at:0:0"], "answer")

    def test_the_floor_counts(self):
        for raising in [["written s 1"], ["read 1 s get:a any", "answer 1 1 1 -"]]:
            before = self.reads("any") + raising
            self.words(before, ["answer 0 0 none -"], "answer")
            auditor_after(*before, "answer 0 1 1 -")
        for other in [["written t 2"], ["read 1 t get:a any", "answer 1 2 1 -"]]:
            auditor_after(*self.reads("any"), *other, "answer 0 0 none -")

    def test_an_answer_that_was_not_accepted_may_come_again(self):
        auditor = auditor_after(*self.reads("any"))
        words = [auditor.read(line) for line in ["answer 0 1 5 -", "answer 0 1 1 -", "answer 0 1 1 -"]]
        self.assertEqual(words, ["answer", None, "order"])


class Faults(unittest.TestCase):
    """A line with a fault changes nothing, and is told once."""

    good = [
        "time 2", "commit 1 2 a=1", "written s 1", "lease 0 0 0 a:b 7 1 2", "read 0 s get:a newest",
        "answer 0 1 1 lease:0", "returned 0", "commit 2 2 b=3",
    ]
    # Faulty lines, each of which would make a later good line faulty if it counted.
    bad = [
        ["time 1000000000", "time 0"],
        ["commit 1 3 a=1", "commit 2 2 a=1", "commit 1 2 a=1 "],
        ["written s 2", "written s -1", "commit 3 2 b=3"],
        ["lease 0 0 0 a:b 7 0 2", "lease 0 0 0 b:a 7 1 2 2", "lease 1 0 0 a:b 7 1 2", "read 1 s get:a any"],
        ["read 0 s get:a newest 1", "commit 2 2 a=2", "read 0 S get:a any", "returned 1"],
        ["answer 0 1 2 lease:0", "answer 0 1 1 lease:1", "answer 0 1 1", "answer 1 1 1 -", "commit 2 2 b=1"],
        ["returned 00", "returned -1", "answer 0 1 1 lease:0", "commit 2 2 c=1,a=1", "commit 2 2 b=1"],
        ["returned 0", "commit 1 2 b=3", "commit 3 2 b=3", "time 2"],
    ]

    def test_the_lines_behind_it_are_judged_as_if_it_were_not_there(self):
        auditor, expected, at = Auditor(), [], 0
        for bad, good in zip(self.bad, self.good):
            for line in bad:
                kept = state(auditor)
                word = auditor.read(line)
                self.assertIn(word, ["form", "order", "lease", "answer"], line)
                self.assertEqual(state(auditor), kept)
                expected.append((at, word))
                at += 1
            self.assertIsNone(auditor.read(good), good)
            at += 1
        self.assertEqual(auditor.findings(), expected)
        self.assertEqual(state(auditor), state(auditor_after(*self.good)))

    def test_audit(self):
        lines = [line for bad, good in zip(self.bad, self.good) for line in bad + [good]]
        auditor = Auditor()
        for line in lines:
            auditor.read(line)
        self.assertEqual(audit(lines), auditor.findings())
        self.assertEqual(audit(self.good), [])

    def test_each_word(self):
        lines = [
            "commit 1 0 a=1", "x", "commit 1 0 a=1", "lease 0 0 0 a:a 5 1 0", "commit 2 0 a=2", "read 0 s get:a any",
            "answer 0 1 2 -", "answer 0 1 1 -", "",
        ]
        expected = [(1, "form"), (2, "order"), (4, "lease"), (6, "answer"), (8, "form")]
        self.assertEqual(audit(lines), expected)

    def test_a_read_with_a_fault_did_not_come(self):
        lines = ["read 1 s get:a any", "answer 1 x y z", "read 0 s get:a old", "answer 0 0 none -", "answer 0 0 none"]
        expected = [(0, "order"), (1, "order"), (2, "form"), (3, "order"), (4, "form")]
        self.assertEqual(audit(lines), expected)

    def test_a_lease_with_a_fault_was_not_granted(self):
        lines = ["lease 0 0 0 a:z 5 1 0", "commit 1 0 a=1", "returned 0"]
        self.assertEqual(audit(lines), [(0, "order"), (2, "order")])

    def test_a_commit_with_a_fault_was_not_made(self):
        lines = [LEASE, "commit 1 0 a=1", "written s 1", "commit 1 0 x=1", "written s 1"]
        self.assertEqual(audit(lines), [(1, "lease"), (2, "order")])

    def test_a_return_with_a_fault_returns_nothing(self):
        self.assertEqual(audit([LEASE, "returned 1", "commit 1 0 a=1"]), [(1, "order"), (2, "lease")])


class Copies(unittest.TestCase):
    """Point 2."""

    def test_what_is_told_is_new(self):
        auditor = auditor_after(*COMMITS, "written s 1")
        auditor.read("x")
        before = (state(auditor), list(auditor.findings()))
        auditor.findings().clear()
        auditor.ledger().clear()
        auditor.floors()["s"] = 9
        self.assertEqual((state(auditor), auditor.findings()), before)

    def test_lines_are_not_modified(self):
        lines = COMMITS + ["x"]
        audit(lines).clear()
        self.assertEqual(lines, COMMITS + ["x"])
        self.assertEqual(audit(lines), [(3, "form")])

    def test_auditors_share_nothing(self):
        first, second = Auditor(), Auditor()
        first.read("commit 1 0 a=1")
        first.read("x")
        self.assertEqual((state(second), second.findings()), (([], 0, {}), []))


if __name__ == "__main__":
    unittest.main()
