"""Point 89: the transcripts of long mixed histories, as they are and spoilt."""

import unittest

from leasehall.auditor import Auditor, audit
from leasehall.lettertext import write_answer
from leasehall.notation import write_group, write_history, write_promise, write_questions
from leasehall.promises import is_right, results
from leasehall.transcript import write_transcript
from samples import seeded, some_cover, some_group
from worlds import some_event, some_promise, some_questions, some_world, try_event


def mixed_world(chance, steps=160):
    world = some_world(chance)
    for _ in range(steps):
        try_event(world, some_event(chance, world))
    if chance.random() < 0.4:
        world.calm_round()
        world.calm_round()
    return world


def transcripts(seed, count):
    chance = seeded(seed)
    for _ in range(count):
        world = mixed_world(chance)
        yield world, write_transcript(write_history(world))


def with_part(line, at, part):
    """The line with another part."""
    parts = line.split(" ")
    return " ".join(parts[:at] + [part] + parts[at + 1:])


def with_more(line, at, more):
    """The line with a greater or lesser integer."""
    return with_part(line, at, str(int(line.split(" ")[at]) + more))


def out_of_order(line):
    """Lines at the place of a line which are out of order there."""
    word = line.split(" ")[0]
    if word == "time":
        return [with_part(line, 1, "0"), with_part(line, 1, "-5")]
    if word == "commit":
        return [with_more(line, 1, 1), with_more(line, 1, -1), with_more(line, 2, 1), with_more(line, 2, -1)]
    if word == "lease":
        return [with_more(line, at, more) for at in [1, 6, 7] for more in [-1, 1]]
    if word == "returned":
        return [with_part(line, 1, "-1"), with_part(line, 1, "99999")]
    if word == "written":
        return [with_part(line, 2, "-1"), with_part(line, 2, "201")]
    if word == "read":
        return [with_more(line, 1, 1), with_more(line, 1, -1)]
    return [with_part(line, 1, "-1"), with_part(line, 1, "99999")]


def wrong_answers(line):
    """Answers that are not right, whatever the ledger is."""
    results = line.split(" ")[3].split(";")
    wrong = [with_part(line, 2, "201"), with_part(line, 2, "-1")]
    for at, result in enumerate(results):
        if result[0] in "0123456789-":
            other = str(int(result) + 1)
            wrong.append(with_part(line, 3, ";".join(results[:at] + [other] + results[at + 1:])))
        if result[0] == "[":
            other = "[aaaaaaaa=1]"
            wrong.append(with_part(line, 3, ";".join(results[:at] + [other] + results[at + 1:])))
    return wrong


class Whole(unittest.TestCase):
    def test_no_finding(self):
        words = {}
        for world, lines in transcripts(89, 60):
            auditor = Auditor()
            for line in lines:
                self.assertIsNone(auditor.read(line), line)
                words[line.split(" ")[0]] = words.get(line.split(" ")[0], 0) + 1
            self.assertEqual((auditor.findings(), audit(lines)), ([], []))
            self.assertEqual(auditor.ledger(), world.store().ledger())
            self.assertEqual(auditor.time(), world.time())
            self.assertEqual(auditor.floors(), world.floors())
        self.assertTrue(all(words.get(word, 0) > 20 for word in ["commit", "lease", "answer", "written"]), words)


class Spoilt(unittest.TestCase):
    """A spoilt line is found where it stands."""

    def found(self, lines, index, words):
        findings = audit(lines)
        self.assertTrue(findings, lines[index])
        self.assertEqual(findings[0][0], index, lines[index])
        self.assertIn(findings[0][1], words, lines[index])

    def test_lines_without_form(self):
        for _, lines in transcripts(90, 6):
            for index, line in enumerate(lines):
                for wrong in [line + " ", " " + line, "", line.upper(), line.replace(" ", "  ", 1)]:
                    self.found(lines[:index] + [wrong] + lines[index + 1:], index, ["form"])

    def test_lines_twice(self):
        for _, lines in transcripts(91, 8):
            for index, line in enumerate(lines):
                if not line.startswith("written"):
                    self.found(lines[:index + 1] + lines[index:], index + 1, ["order"])

    def test_lines_out_of_order(self):
        for _, lines in transcripts(92, 8):
            for index, line in enumerate(lines):
                for wrong in out_of_order(line):
                    spoilt = lines[:index] + [wrong] + lines[index + 1:]
                    words = ["form", "order"] if line.startswith("answer") else ["order"]
                    self.found(spoilt, index, words)

    def test_answers_that_are_not_right(self):
        tried = 0
        for _, lines in transcripts(93, 20):
            for index, line in enumerate(lines):
                if line.startswith("answer"):
                    for wrong in wrong_answers(line):
                        self.found(lines[:index] + [wrong] + lines[index + 1:], index, ["answer"])
                        tried += 1
        self.assertGreater(tried, 100)

    def test_lines_left_out(self):
        tried = 0
        for _, lines in transcripts(94, 10):
            words = [line.split(" ")[0] for line in lines]
            for index, word in enumerate(words):
                # The numbers of the lines of these kinds behind it are no longer the next ones.
                if word in ("commit", "lease", "read") and word in words[index + 1:]:
                    self.assertTrue(audit(lines[:index] + lines[index + 1:]), lines[index])
                    tried += 1
        self.assertGreater(tried, 100)

    def test_a_commit_under_an_active_lease(self):
        tried = 0
        for _, lines in transcripts(95, 20):
            auditor = Auditor()
            for index, line in enumerate(lines):
                auditor.read(line)
                if line.startswith("lease"):
                    _, _, _, _, cover, until, _, time = line.split(" ")
                    first, last = cover.split(":")
                    if first <= last and int(until) > int(time):
                        number = len(auditor.ledger()) + 1
                        commit = f"commit {number} {time} {first}=1"
                        self.found(lines[:index + 1] + [commit] + lines[index + 1:], index + 1, ["lease"])
                        tried += 1
        self.assertGreater(tried, 50)


class Forged(unittest.TestCase):
    """Whatever made the lines: an answer without a finding is right at its time."""

    def some_line(self, chance, auditor, reads):
        """A line that may have no fault, and the answer in it, if it is one."""
        time, ledger = auditor.time(), auditor.ledger()
        roll = chance.random()
        if roll < 0.1:
            return (f"time {time + chance.randint(1, 4)}", None)
        if roll < 0.25:
            return (f"commit {len(ledger) + 1} {time} " + write_group(some_group(chance)), None)
        if roll < 0.4:
            number, until = self.leases, time + chance.randint(1, 9)
            first, last = some_cover(chance)
            return (f"lease {number} 0 0 {first}:{last} {until} {len(ledger)} {time}", None)
        if roll < 0.45:
            return (f"returned {chance.randint(0, max(0, self.leases))}", None)
        if roll < 0.5:
            return (f"written s {chance.randint(0, len(ledger))}", None)
        if roll < 0.65 or not reads:
            read = (len(reads), "s", some_questions(chance)[:2], some_promise(chance))
            reads.append(read)
            asked = write_questions(read[2]) + " " + write_promise(read[3])
            return (f"read {read[0]} s " + asked, None)
        return self.some_answer(chance, auditor, chance.choice(reads))

    def some_answer(self, chance, auditor, read):
        number, _, questions, promise = read
        ledger, time = auditor.ledger(), auditor.time()
        moment = max(0, len(ledger) - chance.choice([0, 0, 0, 1, 2]))
        evidence = []
        if promise[0] == "age":
            evidence = [("at", max(0, time - chance.randint(0, 3)), max(0, moment - chance.randint(0, 1)))]
        if promise[0] == "newest":
            evidence = [("lease", chance.randint(0, self.leases)) for _ in questions]
        given = results(ledger, questions, moment)
        if chance.random() < 0.1:
            given = results(ledger, questions, max(0, moment - 1))
        answer = (given, moment, evidence)
        return (f"answer {number} " + write_answer(answer, questions), (read, answer))

    def test_answers_without_a_finding_are_right(self):
        chance = seeded(96)
        counts = {"any": 0, "age": 0, "newest": 0, "answer": 0, "lease": 0}
        for _ in range(60):
            auditor, reads = Auditor(), []
            self.leases = 0
            for _ in range(160):
                line, told = self.some_line(chance, auditor, reads)
                floor = auditor.floors().get("s", 0)
                word = auditor.read(line)
                if line.startswith("lease") and word is None:
                    self.leases += 1
                if word in counts:
                    counts[word] += 1
                if told and word is None:
                    read, answer = told
                    self.assertTrue(is_right(auditor.ledger(), auditor.time(), floor, read, answer), line)
                    counts[read[3][0]] += 1
        self.assertTrue(all(count > 30 for count in counts.values()), counts)


if __name__ == "__main__":
    unittest.main()
