"""Points 72 to 74: the beginning of a world, its events, and what it remembers."""

import unittest

from leasehall.errors import Full, IsDown, IsUp, NotFound
from leasehall.world import World
from host_letters import host_state
from samples import seeded
from worlds import some_event, some_world, try_event, world_state

ANY = ("any",)
GET_A = [("get", "a")]
READ_A = ("read", 0, "s", GET_A, ANY)
A1 = (("a", 1),)


def world_after(*events, rooms=(400, 400), error_bound=3, lease_length=20):
    world = World(list(rooms), error_bound, lease_length)
    for event in events:
        world.act(event)
    return world


def deliver_all(world):
    told = []
    while world.letters():
        told.extend(world.act(("deliver", 0)))
    return told


def beats(world, count):
    """Fill the network with beats, which no one answers."""
    while len(world.letters()) < count:
        world.act(("beat",))


class Beginning(unittest.TestCase):
    """Point 72."""

    def test_new_world(self):
        world = World([5, 400, 1], 4, 20)
        self.assertEqual(world.time(), 0)
        self.assertEqual([world.reading(host) for host in range(3)], [0, 0, 0])
        self.assertEqual([world.is_up(host) for host in range(3)], [True, True, True])
        self.assertTrue(world.store().is_up())
        self.assertEqual(world.floors(), {})
        self.assertEqual(world.letters(), [])
        self.assertEqual(world.crowded_out(), 0)
        self.assertEqual((world.answers(), world.history(), world.waiting()), ([], [], []))
        for host in range(3):
            self.assertEqual(host_state(world.host(host)), (0, 0, [], [], {}, {}, {}))

    def test_hosts_have_their_index_and_their_room(self):
        world = world_after(rooms=[1, 2])
        world.act(("write", 0, "s", A1))
        deliver_all(world)
        for host, kept in [(0, 0), (1, 1)]:
            world.act(("read", host, "s", GET_A, ANY))
            self.assertEqual(world.letters()[0][1][1], host)
            deliver_all(world)
            self.assertEqual(len(world.host(host).entries()), kept)

    def test_hosts_know_the_error_bound_and_the_store_its_lease_length(self):
        world = world_after(("read", 0, "s", GET_A, ("newest",)), error_bound=3, lease_length=5)
        told = []
        for index in [0, 0, 1]:
            told.extend(world.act(("deliver", index)))
        self.assertEqual(told, [])
        self.assertEqual(world.store().leases()[0][4], 5)
        world.act(("pass", 2))
        # The latest possible time is 5, and so is the end of the lease.
        self.assertEqual(world.act(("deliver", 0)), [])
        self.assertEqual(world.waiting(), [0])
        world.act(("drift", 0, -1))
        self.assertEqual(len(world.act(("nudge", 0))), 1)

    def test_the_store_knows_its_hosts(self):
        world = world_after(("beat",), rooms=[5, 5, 5, 5])
        expected = [(False, ("beat", host, 0, 0)) for host in range(4)]
        self.assertEqual(world.letters(), expected)

    def test_the_rooms_are_copied(self):
        rooms = [5, 6]
        world = World(rooms, 1, 2)
        rooms.append(7)
        self.assertEqual(world.setup(), ([5, 6], 1, 2))
        world.setup()[0].clear()
        self.assertEqual(world.setup(), ([5, 6], 1, 2))
        with self.assertRaises(NotFound):
            world.act(("nudge", 2))


class Events(unittest.TestCase):
    """Point 73, each event."""

    def test_pass(self):
        world = world_after(("pass", 1), ("pass", 20))
        self.assertEqual(world.time(), 21)
        self.assertEqual(world.reading(1), 21)

    def test_pass_settles_at_the_new_time(self):
        world = world_after(("read", 0, "s", GET_A, ("newest",)), lease_length=5)
        deliver_all(world)
        world.act(("write", 1, "s", A1))
        world.act(("deliver", 0))
        self.assertEqual(world.letters(), [(False, ("recall", 0, 0, 0))])
        world.act(("lose", 0))
        world.act(("pass", 4))
        self.assertEqual((world.letters(), world.store().moment()), ([], 0))
        world.act(("pass", 1))
        self.assertEqual(world.store().ledger(), [(5, A1)])
        expected = [("written", 1, 0, 0, 1, 5), ("note", 0, 1, 5, A1), ("note", 1, 1, 5, A1)]
        self.assertEqual(world.letters(), [(False, letter) for letter in expected])

    def test_pass_while_the_store_is_down(self):
        world = world_after(("store_fall",), ("pass", 3))
        self.assertEqual((world.time(), world.letters()), (3, []))

    def test_beat(self):
        world = world_after(("pass", 4), ("beat",))
        expected = [(False, ("beat", 0, 4, 0)), (False, ("beat", 1, 4, 0))]
        self.assertEqual(world.letters(), expected)

    def test_beat_while_the_store_is_down(self):
        world = world_after(("store_fall",), ("beat",))
        self.assertEqual(world.letters(), [])
        self.assertEqual(world.history(), [("store_fall",), ("beat",)])

    def test_drift(self):
        world = world_after(("pass", 10), ("drift", 1, -3))
        self.assertEqual([world.reading(0), world.reading(1)], [10, 7])
        world.act(("drift", 1, 3))
        world.act(("drift", 0, 1))
        self.assertEqual([world.reading(0), world.reading(1)], [11, 13])
        world.act(("pass", 1))
        self.assertEqual([world.reading(0), world.reading(1)], [12, 14])

    def test_drift_of_a_host_that_is_down(self):
        world = world_after(("fall", 1), ("drift", 1, 2), ("rise", 1))
        self.assertEqual(world.reading(1), 2)

    def test_deliver_to_the_store(self):
        world = world_after(READ_A, ("write", 1, "t", A1), ("pass", 2))
        self.assertEqual(world.letters()[1], (True, ("write", 1, 0, 0, A1)))
        self.assertEqual(world.act(("deliver", 1)), [])
        self.assertEqual(world.store().ledger(), [(2, A1)])
        self.assertEqual(world.letters()[0], (True, ("fetch", 0, 0, 0, ("list", "a", "a"))))
        self.assertEqual(world.letters()[1], (False, ("written", 1, 0, 0, 1, 2)))
        self.assertEqual(len(world.letters()), 4)

    def test_deliver_to_a_host(self):
        world = world_after(READ_A, ("pass", 2), ("deliver", 0))
        letter = ("answer", 0, 0, 0, ("list", "a", "a"), (), 0, 2)
        self.assertEqual(world.letters(), [(False, letter)])
        event = ("answered", (0, "s", GET_A, ANY), ([None], 0, []))
        self.assertEqual(world.act(("deliver", 0)), [event])
        self.assertEqual(world.letters(), [])
        self.assertEqual(world.host(1).statements(), {})

    def test_deliver_uses_the_reading_of_the_host(self):
        world = world_after(
            ("drift", 0, 2), ("read", 0, "s", GET_A, ("age", 5)), ("deliver", 0), error_bound=3
        )
        # The latest possible time is the time and 5.
        self.assertEqual(len(world.act(("deliver", 0))), 1)
        world = world_after(
            ("drift", 0, 3), ("read", 0, "s", GET_A, ("age", 5)), ("deliver", 0), error_bound=3
        )
        self.assertEqual(world.act(("deliver", 0)), [])

    def test_what_a_host_answers_goes_up(self):
        world = world_after(
            ("read", 0, "s", GET_A, ("newest",)), ("deliver", 1), ("deliver", 1),
            ("write", 1, "s", A1), ("deliver", 1),
        )
        self.assertEqual(world.letters()[1], (False, ("recall", 0, 0, 0)))
        world.act(("deliver", 1))
        self.assertEqual(world.letters()[1:], [(True, ("return", 0, 0, 0))])

    def test_deliver_to_a_host_that_is_down(self):
        world = world_after(READ_A, ("deliver", 0), ("fall", 0))
        self.assertEqual(world.act(("deliver", 0)), [])
        self.assertEqual(world.letters(), [])
        world.act(("beat",))
        world.act(("deliver", 0))
        self.assertEqual(world.host(0).statements(), {})
        world.act(("rise", 0))
        world.act(("beat",))
        world.act(("deliver", 1))
        self.assertEqual(world.host(0).statements(), {0: 0})

    def test_deliver_to_another_incarnation(self):
        world = world_after(READ_A, ("deliver", 0), ("fall", 0), ("rise", 0))
        self.assertEqual(world.act(("deliver", 0)), [])
        self.assertEqual(world.host(0).statements(), {})

    def test_deliver_to_a_store_that_is_down(self):
        world = world_after(("write", 0, "s", A1), ("store_fall",))
        self.assertEqual(world.act(("deliver", 0)), [])
        self.assertEqual((world.letters(), world.store().pending()), ([], []))
        world.act(("store_rise",))
        self.assertEqual(world.store().moment(), 0)

    def test_lose(self):
        world = world_after(READ_A, ("write", 0, "s", A1), ("lose", 0))
        self.assertEqual(world.letters(), [(True, ("write", 0, 0, 1, A1))])
        self.assertEqual(world.crowded_out(), 0)

    def test_double(self):
        world = world_after(READ_A, ("write", 0, "s", A1), ("double", 0))
        letters = world.letters()
        self.assertEqual((len(letters), letters[2]), (3, letters[0]))

    def test_read(self):
        world = world_after(READ_A)
        self.assertEqual(world.waiting(), [0])
        self.assertEqual(world.host(0).waiting(), [(0, "s", GET_A, ANY)])
        world.act(("read", 1, "t", [("get", "b")], ("age", 3)))
        self.assertEqual(world.host(1).waiting(), [(1, "t", [("get", "b")], ("age", 3))])
        self.assertEqual(world.waiting(), [0, 1])
        self.assertEqual([letter[1][1] for letter in world.letters()], [0, 1])

    def test_read_that_is_answered_at_once(self):
        world = world_after(READ_A)
        deliver_all(world)
        event = ("answered", (1, "s", GET_A, ANY), ([None], 0, []))
        self.assertEqual(world.act(READ_A), [event])
        self.assertEqual(world.letters(), [])

    def test_waiting_is_ascending(self):
        world = world_after(*[("read", host, "s", GET_A, ANY) for host in [1, 0, 1, 0]])
        self.assertEqual(world.waiting(), [0, 1, 2, 3])

    def test_write(self):
        world = world_after(("write", 1, "t", A1))
        self.assertEqual(world.letters(), [(True, ("write", 1, 0, 0, A1))])
        self.assertEqual(deliver_all(world), [("written", "t", 0, 1)])

    def test_nudge(self):
        world = world_after(READ_A, ("write", 0, "s", A1), ("nudge", 0))
        letters = [letter for _, letter in world.letters()]
        self.assertEqual(letters[2:], [letters[1], ("fetch", 0, 0, 2, ("list", "a", "a"))])
        self.assertTrue(all(is_up for is_up, _ in world.letters()))
        self.assertEqual(world.act(("nudge", 1)), [])

    def test_give_up(self):
        world = world_after(READ_A, ("read", 1, "s", GET_A, ANY), READ_A)
        self.assertEqual(world.act(("give_up", 1)), [])
        self.assertEqual(world.waiting(), [0, 2])
        world.act(("give_up", 2))
        self.assertEqual(world.host(0).waiting(), [(0, "s", GET_A, ANY)])

    def test_fall_and_rise(self):
        world = world_after(READ_A, ("fall", 0))
        self.assertEqual([world.is_up(0), world.is_up(1)], [False, True])
        self.assertEqual(world.waiting(), [])
        self.assertEqual(host_state(world.host(0)), (1, 0, [], [], {}, {}, {}))
        world.act(("rise", 0))
        self.assertTrue(world.is_up(0))
        world.act(READ_A)
        self.assertEqual(world.waiting(), [1])
        self.assertEqual(world.letters()[-1][1], ("fetch", 0, 1, 0, ("list", "a", "a")))

    def test_store_fall_and_rise(self):
        world = world_after(("read", 0, "s", GET_A, ("newest",)))
        deliver_all(world)
        for group in [A1, (("b", 1),)]:
            world.act(("write", 1, "s", group))
            world.act(("deliver", len(world.letters()) - 1))
        self.assertEqual(len(world.store().pending()), 2)
        world.act(("store_fall",))
        self.assertFalse(world.store().is_up())
        self.assertEqual(world.store().pending(), [])
        world.act(("store_rise",))
        self.assertTrue(world.store().is_up())
        self.assertEqual(world.store().moment(), 0)


class Errors(unittest.TestCase):
    """Point 73, the errors, and point 2: an event that raises changes nothing."""

    def check(self, world, event, error):
        before = world_state(world)
        with self.assertRaises(error):
            world.act(event)
        self.assertEqual(world_state(world), before)

    def test_hosts_that_do_not_exist(self):
        world = world_after(READ_A, ("fall", 1))
        for host in [-1, -2, 2, 3, 999999, -999999]:
            for event in [
                ("drift", host, 1), ("read", host, "s", GET_A, ANY), ("write", host, "s", A1),
                ("nudge", host), ("fall", host), ("rise", host),
            ]:
                self.check(world, event, NotFound)

    def test_letters_that_do_not_exist(self):
        for events in [[], [READ_A], [READ_A, ("beat",)]]:
            world = world_after(*events)
            held = len(world.letters())
            for index in [-1, -held - 1, held, held + 1, 400, 999999, -999999]:
                for word in ["deliver", "lose", "double"]:
                    if not 0 <= index < held:
                        self.check(world, (word, index), NotFound)

    def test_reads_that_do_not_wait(self):
        world = world_after(READ_A, ("read", 1, "s", GET_A, ANY), READ_A, ("give_up", 2))
        world.act(("deliver", 1))
        self.assertEqual(len(world.act(("deliver", len(world.letters()) - 1))), 1)
        for number in [-1, 1, 2, 3, 999999, -999999]:
            self.check(world, ("give_up", number), NotFound)
        world.act(("fall", 0))
        self.check(world, ("give_up", 0), NotFound)

    def test_hosts_that_are_down(self):
        world = world_after(("fall", 1))
        for event in [
            ("read", 1, "s", GET_A, ANY), ("write", 1, "s", A1), ("nudge", 1), ("fall", 1),
        ]:
            self.check(world, event, IsDown)

    def test_hosts_that_are_up(self):
        world = world_after(READ_A)
        self.check(world, ("rise", 0), IsUp)
        world.act(("fall", 0))
        world.act(("rise", 0))
        self.check(world, ("rise", 0), IsUp)

    def test_a_store_that_is_down_or_up(self):
        world = world_after(READ_A)
        self.check(world, ("store_rise",), IsUp)
        world.act(("store_fall",))
        self.check(world, ("store_fall",), IsDown)

    def test_double_in_a_full_network(self):
        world = world_after(READ_A, rooms=[400])
        beats(world, 400)
        self.check(world, ("double", 0), Full)
        self.check(world, ("double", 399), Full)
        self.check(world, ("double", 400), NotFound)
        self.check(world, ("double", -1), NotFound)
        world.act(("lose", 5))
        world.act(("double", 0))
        self.assertEqual(len(world.letters()), 400)

    def test_a_read_that_raises_takes_no_number(self):
        world = world_after(("fall", 1))
        self.check(world, ("read", 1, "s", GET_A, ANY), IsDown)
        self.check(world, ("read", 2, "s", GET_A, ANY), NotFound)
        world.act(READ_A)
        self.assertEqual(world.waiting(), [0])

    def test_in_long_histories(self):
        chance = seeded(74)
        raised = 0
        for _ in range(15):
            world = some_world(chance)
            for _ in range(80):
                event = some_event(chance, world)
                before = world_state(world)
                if try_event(world, event) is None:
                    raised += 1
                    self.assertEqual(world_state(world), before)
        self.assertGreater(raised, 50)


class Crowds(unittest.TestCase):
    """Points 15 and 72: letters beyond 400."""

    def test_letters_that_are_lost(self):
        world = world_after(rooms=[400])
        beats(world, 399)
        world.act(("read", 0, "s", GET_A, ("newest",)))
        self.assertEqual(len(world.letters()), 400)
        self.assertEqual(world.letters()[-1][1][0], "fetch")
        self.assertEqual(world.crowded_out(), 1)
        world.act(("beat",))
        world.act(("write", 0, "s", A1))
        self.assertEqual((len(world.letters()), world.crowded_out()), (400, 3))
        self.assertEqual(sorted(world.host(0).requests()), [0, 1, 2])

    def test_lose_and_double_do_not_count(self):
        world = world_after(rooms=[400])
        beats(world, 400)
        try_event(world, ("double", 0))
        world.act(("lose", 0))
        self.assertEqual(world.crowded_out(), 0)

    def test_a_delivered_letter_makes_place_for_its_answer(self):
        world = world_after(("write", 0, "s", A1), rooms=[400])
        beats(world, 400)
        world.act(("deliver", 0))
        self.assertEqual(world.letters()[-1], (False, ("written", 0, 0, 0, 1, 0)))
        self.assertEqual(world.crowded_out(), 1)


class Memory(unittest.TestCase):
    """Point 74."""

    def test_the_history(self):
        events = [
            READ_A, ("pass", 2), ("drift", 0, -1), ("double", 0), ("lose", 1), ("deliver", 0),
            ("write", 1, "t", A1), ("beat",), ("nudge", 1), ("give_up", 0), ("fall", 0),
            ("rise", 0), ("store_fall",), ("store_rise",),
        ]
        world = world_after(*events)
        self.assertEqual(world.history(), events)
        try_event(world, ("nudge", 7))
        self.assertEqual(world.history(), events)

    def test_floors_of_answers(self):
        world = world_after(("write", 0, "t", A1))
        deliver_all(world)
        self.assertEqual(world.floors(), {"t": 1})
        world.act(READ_A)
        deliver_all(world)
        self.assertEqual(world.floors(), {"t": 1, "s": 1})

    def test_a_floor_of_0_is_not_told(self):
        world = world_after(READ_A)
        deliver_all(world)
        self.assertEqual(len(world.answers()), 1)
        self.assertEqual(world.floors(), {})

    def test_floors_do_not_fall(self):
        world = world_after(READ_A)
        deliver_all(world)
        for _ in range(3):
            world.act(("write", 0, "s", A1))
            world.act(("deliver", len(world.letters()) - 1))
        letters = [letter for _, letter in world.letters()]
        self.assertEqual(letters[6], ("written", 0, 0, 3, 3, 0))
        world.act(("deliver", 6))
        self.assertEqual(world.floors(), {"s": 3})
        world.act(("deliver", 0))
        self.assertEqual(world.floors(), {"s": 3})

    def test_the_floors_are_passed_to_the_hosts(self):
        world = world_after(("read", 1, "t", GET_A, ANY), ("deliver", 0), ("deliver", 0))
        world.act(("write", 0, "s", A1))
        world.act(("deliver", 0))
        self.assertEqual(world.act(("deliver", 0)), [("written", "s", 0, 1)])
        world.act(("lose", 0))
        world.act(("lose", 0))
        # Host 1 still has the records of moment 0, which is too old for session s only.
        self.assertEqual(world.act(("read", 1, "s", GET_A, ANY)), [])
        event = ("answered", (2, "t", GET_A, ANY), ([None], 0, []))
        self.assertEqual(world.act(("read", 1, "t", GET_A, ANY)), [event])
        self.assertEqual(world.act(("nudge", 1)), [])
        self.assertEqual([event[2][1] for event in deliver_all(world)], [1])

    def test_answers(self):
        world = world_after(("write", 0, "s", A1), ("pass", 3))
        deliver_all(world)
        world.act(("read", 1, "s", GET_A, ANY))
        world.act(("read", 1, "t", GET_A, ("age", 7)))
        world.act(("pass", 2))
        deliver_all(world)
        expected = [
            (0, 5, 1, 1, ([1], 1, [])),
            (1, 5, 0, 1, ([1], 1, [("at", 5, 1)])),
        ]
        self.assertEqual(world.answers(), expected)
        world.act(("write", 0, "t", (("b", 2),)))
        world.act(("deliver", 0))
        world.act(("read", 1, "t", GET_A, ANY))
        self.assertEqual(world.answers(), expected + [(2, 5, 1, 2, ([1], 1, []))])

    def test_floors_within_one_event(self):
        world = world_after(READ_A, READ_A, ("write", 1, "s", A1), ("deliver", 1), ("lose", 1))
        world.act(("deliver", 0))
        deliver_all(world)
        self.assertEqual([answer[:4] for answer in world.answers()], [(0, 0, 0, 1), (1, 0, 1, 1)])

    def test_lists_and_dicts_are_new(self):
        world = world_after(("write", 0, "s", A1))
        deliver_all(world)
        world.act(READ_A)
        deliver_all(world)
        world.act(("read", 1, "s", GET_A, ("newest",)))
        before = world_state(world)
        for _ in range(2):
            world.answers()[0][4][0].append(5)
            world.answers()[0][4][2].append(("lease", 5))
            world.answers().clear()
            world.history()[-1][3].append(("get", "b"))
            world.history().clear()
            world.floors()["s"] = 9
            world.letters().clear()
            world.waiting().clear()
            self.assertEqual(world_state(world), before)

    def test_events_that_are_told_are_new(self):
        world = world_after(READ_A)
        told = deliver_all(world)
        before = world_state(world)
        told[0][1][2].append(("get", "b"))
        told[0][2][0].append(5)
        told[0][2][2].append(("lease", 5))
        self.assertEqual(world_state(world), before)

    def test_questions_are_copied(self):
        world = world_after()
        questions = [("get", "a")]
        event = ("read", 0, "s", questions, ANY)
        world.act(event)
        questions.append(("get", "b"))
        self.assertEqual(world.history(), [READ_A])
        self.assertEqual(world.host(0).waiting(), [(0, "s", GET_A, ANY)])
        told = deliver_all(world)
        self.assertEqual(told[0][1], (0, "s", GET_A, ANY))

    def test_events_are_not_modified(self):
        world = world_after()
        event = ("read", 0, "s", [("get", "a")], ANY)
        world.act(event)
        deliver_all(world)
        self.assertEqual(event, READ_A)


if __name__ == "__main__":
    unittest.main()
