"""Point 1, and points 75 and 76, over the whole program: histories with every kind of event."""

import ast
import pathlib
import unittest

from leasehall.auditor import Auditor
from leasehall.bundles import pack, unpack
from leasehall.checker import accepts
from leasehall.ledger import at
from leasehall.lettertext import read_answer, read_letter, write_answer, write_letter
from leasehall.notation import read_history, write_history
from leasehall.promises import is_right
from leasehall.rates import share
from leasehall.records import ask
from leasehall.transcript import write_transcript
from leasehall.world import World
from samples import seeded
from tower_runs import Setup, some_setup, tower_state
from tower_runs import some_event as some_tower_event
from tower_runs import try_event as try_tower_event
from worlds import check_told, remembered, some_event, some_world, try_event, world_state

PACKAGE = pathlib.Path(__file__).resolve().parent.parent / "leasehall"
WORLD_WORDS = {
    "pass", "beat", "drift", "deliver", "lose", "double", "read", "write", "nudge", "give_up", "fall", "rise",
    "store_fall", "store_rise",
}
TOWER_WORDS = WORLD_WORDS | {"relay_beat"}


class Worlds(unittest.TestCase):
    def setUp(self):
        self.words = set()

    def tearDown(self):
        self.assertEqual(self.words, WORLD_WORDS)

    def worlds(self, seed, count, step=try_event):
        """Worlds after long mixed histories; each event happens by a call of step."""
        chance = seeded(seed)
        for _ in range(count):
            world = some_world(chance)
            for _ in range(250):
                step(world, some_event(chance, world))
            self.words.update(event[0] for event in world.history())
            yield world

    def test_each_answer_is_what_the_store_held_at_one_moment(self):
        counts = {"any": 0, "age": 0, "newest": 0}

        def step(world, event):
            floors = world.floors()
            told = try_event(world, event) or []
            check_told(self, told, floors, world.store(), world.time())
            for each in told:
                if each[0] == "answered":
                    _, (_, _, questions, promise), (results, moment, _) = each
                    records = at(world.store().ledger(), moment)
                    self.assertEqual(results, [ask(records, question) for question in questions])
                    counts[promise[0]] += 1

        for _ in self.worlds(1, 45, step):
            pass
        self.assertTrue(all(count > 5 for count in counts.values()), counts)

    def test_a_read_that_is_not_answered_waits_or_was_given_up_or_lost(self):
        def step(world, event):
            came = len([each for each in world.history() if each[0] == "read"])
            told = try_event(world, event)
            if told is None:
                return
            if event[0] == "read":
                self.homes[came] = event[1]
            if event[0] == "give_up":
                self.homes.pop(event[1])
            if event[0] == "fall":
                self.homes = {read: home for read, home in self.homes.items() if home != event[1]}
            for each in told:
                if each[0] == "answered":
                    # No read is answered twice, and none that does not wait.
                    self.homes.pop(each[1][0])
                    self.answered.append(each[1][0])
            self.assertEqual(world.waiting(), sorted(self.homes))
            self.assertEqual([answer[0] for answer in world.answers()], self.answered)

        self.homes, self.answered = {}, []
        for _ in self.worlds(2, 20, step):
            self.homes, self.answered = {}, []

    def test_equal_histories_make_equal_worlds(self):
        for world in self.worlds(3, 20):
            world.calm_round()
            again = World(*world.setup())
            for event in world.history():
                again.act(event)
            read = read_history(write_history(world))
            self.assertEqual(world_state(again), world_state(world))
            self.assertEqual(world_state(read), world_state(world))
            self.assertEqual(write_transcript(write_history(again)), write_transcript(write_history(world)))

    def test_what_tells_of_a_world_does_not_change_it(self):
        for world in self.worlds(4, 20):
            before = world_state(world)
            write_transcript(write_history(world))
            share(world)
            letters = world.letters()
            self.assertEqual(sorted(map(str, unpack(pack(letters, 7)))), sorted(map(str, letters)))
            self.assertEqual([read_letter(write_letter(letter)) for _, letter in letters], [each[1] for each in letters])
            self.assertEqual(world_state(world), before)

    def test_the_transcript_alone_shows_that_the_answers_are_right(self):
        """Points 36 and 89: the lines are enough to check each answer that a world remembers."""
        answers = 0
        for world in self.worlds(5, 20):
            auditor, told = Auditor(), list(remembered(world))
            for line in write_transcript(write_history(world)):
                floors = auditor.floors()
                self.assertIsNone(auditor.read(line))
                if line.startswith("answer"):
                    ledger, time, floor, read, answer = told.pop(0)
                    number, session, questions, _ = read
                    self.assertEqual(line, f"answer {number} " + write_answer(answer, questions))
                    self.assertEqual(read_answer(line.split(" ", 2)[2], questions), answer)
                    self.assertEqual((auditor.time(), auditor.ledger()), (time, ledger))
                    self.assertEqual(floors.get(session, 0), floor)
                    self.assertTrue(is_right(auditor.ledger(), time, floor, read, answer))
                    answers += 1
            self.assertEqual(told, [])
        self.assertGreater(answers, 30)


class Towers(unittest.TestCase):
    def test_equal_events_make_equal_towers(self):
        chance = seeded(6)
        words = set()
        for _ in range(12):
            setup = some_setup(chance)
            events, told = [], []
            for _ in range(250):
                event = some_tower_event(chance, setup)
                found = try_tower_event(setup.tower, event)
                if found is not None:
                    events.append(event)
                    told.append(found)
            again = Setup(*setup.made_of)
            self.assertEqual([again.tower.act(event) for event in events], told)
            self.assertEqual(tower_state(again), tower_state(setup))
            words.update(event[0] for event in events)
        self.assertEqual(words, TOWER_WORDS)


class Checked(unittest.TestCase):
    def test_an_answer_that_the_checker_accepts_needs_its_evidence(self):
        """A read whose evidence is not at hand waits, however right its answer would be."""
        world = World([400], 0, 5)
        for event in [("read", 0, "s", [("get", "a")], ("newest",)), ("deliver", 0), ("deliver", 1)]:
            world.act(event)
        self.assertEqual(world.waiting(), [0])
        read = (0, "s", [("get", "a")], ("newest",))
        answer = ([None], 0, [("lease", 0)])
        self.assertTrue(is_right([], 0, 0, read, answer))
        self.assertFalse(accepts([], [], 0, 0, read, answer))
        world.act(("deliver", 0))
        told = world.act(("deliver", 0))
        self.assertEqual([event[2] for event in told], [answer])
        self.assertTrue(accepts([], world.store().leases(), 0, 0, read, answer))

    def test_no_clock_no_chance_and_no_files(self):
        """Point 2: all that the package imports is its own, and one function of arithmetic."""
        for path in sorted(PACKAGE.glob("*.py")):
            for node in ast.walk(ast.parse(path.read_text())):
                self.assertNotIsInstance(node, ast.Import, path)
                if isinstance(node, ast.ImportFrom):
                    names = [alias.name for alias in node.names]
                    own = node.module.startswith("leasehall.")
                    self.assertTrue(own or (node.module, names) == ("math", ["gcd"]), (path, names))


if __name__ == "__main__":
    unittest.main()
