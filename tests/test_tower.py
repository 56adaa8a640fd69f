"""Points 93 and 94, and point 2 for towers."""

import unittest

from leasehall.errors import Full, IsDown, IsUp, NotFound
from leasehall.host import Host
from leasehall.relay import Relay
from leasehall.store import Store
from host_letters import host_state
from samples import seeded
from tower_runs import Setup, some_event, some_setup, store_state, tower_state, try_event

ANY, NEWEST = ("any",), ("newest",)
GET_A = [("get", "a")]
READ_A = ("read", 0, "s", GET_A, ANY)
A1 = (("a", 1),)
B2 = (("b", 2),)
LIST_A = ("list", "a", "a")
NEW_HOST = (0, 0, [], [], {}, {}, {})


def setup_after(*events, relay_room=400, rooms=(400, 400), error_bound=3, lease_length=20):
    setup = Setup(relay_room, list(rooms), error_bound, lease_length)
    for event in events:
        setup.tower.act(event)
    return setup


def tower_after(*events, **made_of):
    return setup_after(*events, **made_of).tower


def deliver_all(tower):
    """Deliver all letters, those of the upper network first; return what is told."""
    told = []
    while tower.letters("upper") or tower.letters("lower"):
        net = "upper" if tower.letters("upper") else "lower"
        told.extend(tower.act(("deliver", net, 0)))
    return told


def down(letter):
    return (False, letter)


def up(letter):
    return (True, letter)


class Beginning(unittest.TestCase):
    """Point 93."""

    def test_a_new_tower(self):
        setup = setup_after(rooms=[5, 400, 1])
        tower = setup.tower
        self.assertEqual((tower.time(), tower.floors(), tower.answers(), tower.waiting()), (0, {}, [], []))
        self.assertEqual((tower.letters("upper"), tower.letters("lower")), ([], []))
        self.assertEqual([tower.is_up(who) for who in range(-1, 3)], [True] * 4)
        self.assertEqual(store_state(tower.store()), (True, [], [], []))
        self.assertEqual(host_state(tower.relay().host()), NEW_HOST)
        self.assertEqual(tower.relay().holders(), {})
        for index in range(3):
            self.assertEqual(host_state(tower.host(index)), NEW_HOST)

    def test_the_objects(self):
        tower = tower_after()
        self.assertIsInstance(tower.store(), Store)
        self.assertIsInstance(tower.relay(), Relay)
        self.assertIsInstance(tower.host(1), Host)
        self.assertIs(tower.store(), tower.store())
        self.assertIs(tower.relay(), tower.relay())
        self.assertIs(tower.host(1), tower.host(1))
        self.assertIsNot(tower.host(0), tower.host(1))

    def test_the_store_has_one_host_and_the_relay_as_many_as_there_are_below(self):
        for count in [1, 2, 4]:
            tower = tower_after(("beat",), rooms=[400] * count)
            self.assertEqual(tower.letters("upper"), [down(("beat", 0, 0, 0))])
            tower.act(("deliver", "upper", 0))
            tower.act(("relay_beat",))
            expected = [down(("beat", host, 0, 0)) for host in range(count)]
            self.assertEqual(tower.letters("lower"), expected)

    def test_the_relay_has_the_index_0(self):
        tower = tower_after(("read", 1, "s", GET_A, ANY), ("deliver", "lower", 0))
        self.assertEqual(tower.letters("upper"), [up(("fetch", 0, 0, 0, LIST_A))])

    def test_the_rooms_of_the_hosts_below(self):
        tower = tower_after(("write", A1), READ_A, ("read", 1, "s", GET_A, ANY), rooms=[1, 2])
        deliver_all(tower)
        self.assertEqual(len(tower.relay().host().entries()), 1)
        self.assertEqual([len(tower.host(host).entries()) for host in [0, 1]], [0, 1])

    def test_the_room_of_the_relay(self):
        for room, kept in [(1, 0), (2, 1)]:
            tower = tower_after(("write", A1), READ_A, relay_room=room)
            deliver_all(tower)
            self.assertEqual(len(tower.relay().host().entries()), kept)

    def test_the_lease_length(self):
        tower = tower_after(("pass", 3), ("read", 0, "s", GET_A, NEWEST), lease_length=7)
        deliver_all(tower)
        self.assertEqual(tower.store().leases(), [(0, 0, 1, ("a", "a"), 10, 0, 3, False)])

    def test_the_error_bound_counts_for_the_relay(self):
        for bound, granted in [(3, True), (4, False)]:
            tower = tower_after(
                ("read", 0, "s", GET_A, NEWEST), ("pass", 3), error_bound=bound, lease_length=4
            )
            tower.act(("deliver", "lower", 1))
            tower.act(("deliver", "upper", 0))
            # The lease ends at 7, and the latest possible time is 3 and the bound.
            tower.act(("deliver", "upper", 0))
            kinds = [letter[0] for _, letter in tower.letters("lower")]
            self.assertEqual(kinds, ["fetch", "leased"] if granted else ["fetch"])

    def test_the_error_bound_counts_for_hosts_below(self):
        for bound, count in [(3, 1), (4, 0)]:
            tower = tower_after(READ_A, ("pass", 3), error_bound=bound)
            deliver_all(tower)
            told = tower.act(("read", 0, "s", GET_A, ("age", 3)))
            self.assertEqual(len(told), count)

    def test_the_rooms_are_copied(self):
        rooms = [400, 400]
        setup = Setup(400, rooms, 1, 20)
        rooms.append(5)
        rooms[0] = 1
        setup.tower.act(READ_A)
        deliver_all(setup.tower)
        self.assertEqual(len(setup.tower.host(0).entries()), 1)
        with self.assertRaises(NotFound):
            setup.tower.act(("nudge", 2))


class StoreEvents(unittest.TestCase):
    """Point 94: the events of the store."""

    def test_pass(self):
        tower = tower_after(("pass", 1), ("pass", 20))
        self.assertEqual(tower.time(), 21)

    def test_pass_settles_at_the_new_time(self):
        tower = tower_after(("read", 0, "s", GET_A, NEWEST), lease_length=5)
        deliver_all(tower)
        tower.act(("write", A1))
        self.assertEqual(tower.letters("upper"), [down(("recall", 0, 0, 0))])
        tower.act(("lose", "upper", 0))
        tower.act(("pass", 4))
        self.assertEqual((tower.letters("upper"), tower.store().moment()), ([], 0))
        tower.act(("pass", 1))
        self.assertEqual(tower.store().ledger(), [(5, A1)])
        expected = [down(("written", 0, -1, 0, 1, 5)), down(("note", 0, 1, 5, A1))]
        self.assertEqual(tower.letters("upper"), expected)

    def test_beat(self):
        tower = tower_after(("pass", 4), ("beat",))
        self.assertEqual(tower.letters("upper"), [down(("beat", 0, 4, 0))])
        self.assertEqual(tower.letters("lower"), [])

    def test_write(self):
        tower = tower_after(("pass", 2))
        self.assertEqual(tower.act(("write", A1)), [])
        self.assertEqual(tower.store().ledger(), [(2, A1)])
        expected = [down(("written", 0, -1, 0, 1, 2)), down(("note", 0, 1, 2, A1))]
        self.assertEqual(tower.letters("upper"), expected)
        tower.act(("write", B2))
        self.assertEqual(tower.letters("upper")[2:], [
            down(("written", 0, -1, 1, 2, 2)), down(("note", 0, 2, 2, B2)),
        ])

    def test_equal_groups_are_written_again(self):
        tower = tower_after(("write", A1), ("write", A1))
        self.assertEqual(tower.store().ledger(), [(0, A1), (0, A1)])

    def test_the_relay_never_takes_up_what_is_written(self):
        setup = setup_after(("write", A1))
        before = host_state(setup.tower.relay().host())
        self.assertEqual(setup.tower.act(("deliver", "upper", 0)), [])
        self.assertEqual(host_state(setup.tower.relay().host()), before)
        self.assertEqual(len(setup.tower.letters("upper")), 1)
        self.assertEqual(setup.tower.letters("lower"), [])

    def test_the_store_falls_and_rises(self):
        tower = tower_after(("read", 0, "s", GET_A, NEWEST))
        deliver_all(tower)
        tower.act(("write", A1))
        self.assertEqual(len(tower.store().pending()), 1)
        self.assertEqual(tower.act(("store_fall",)), [])
        self.assertEqual((tower.store().is_up(), tower.store().pending()), (False, []))
        self.assertEqual(tower.act(("store_rise",)), [])
        self.assertEqual((tower.store().is_up(), tower.store().moment()), (True, 0))
        self.assertEqual(len(tower.store().leases()), 1)

    def test_a_store_that_is_down(self):
        tower = tower_after(READ_A, ("deliver", "lower", 0), ("store_fall",), ("beat",), ("pass", 2))
        self.assertEqual(tower.time(), 2)
        self.assertEqual([letter[0] for _, letter in tower.letters("upper")], ["fetch"])
        self.assertEqual(tower.act(("deliver", "upper", 0)), [])
        self.assertEqual(tower.letters("upper"), [])

    def test_the_number_of_a_write_while_the_store_is_down(self):
        tower = tower_after(("write", A1), ("store_fall",), ("write", B2), ("write", B2))
        self.assertEqual((len(tower.letters("upper")), tower.store().moment()), (2, 1))
        tower.act(("store_rise",))
        self.assertEqual((len(tower.letters("upper")), tower.store().moment()), (2, 1))
        tower.act(("write", B2))
        self.assertEqual(tower.letters("upper")[2], down(("written", 0, -1, 3, 2, 0)))

    def test_the_number_of_a_write_that_waits(self):
        tower = tower_after(("read", 0, "s", GET_A, NEWEST))
        deliver_all(tower)
        for group in [A1, B2]:
            tower.act(("write", group))
        self.assertEqual(tower.store().pending(), [(0, -1, 0, A1), (0, -1, 1, B2)])


class NetworkEvents(unittest.TestCase):
    """Point 94: letters of both networks, in any order, lost and doubled."""

    def test_the_way_of_a_read(self):
        tower = tower_after(("write", A1), ("lose", "upper", 0), ("lose", "upper", 0), READ_A, ("pass", 2))
        self.assertEqual((tower.letters("upper"), tower.letters("lower")), ([], [up(("fetch", 0, 0, 0, LIST_A))]))
        self.assertEqual(tower.act(("deliver", "lower", 0)), [])
        self.assertEqual((tower.letters("upper"), tower.letters("lower")), ([up(("fetch", 0, 0, 0, LIST_A))], []))
        self.assertEqual(tower.act(("deliver", "upper", 0)), [])
        answer = ("answer", 0, 0, 0, LIST_A, A1, 1, 2)
        self.assertEqual((tower.letters("upper"), tower.letters("lower")), ([down(answer)], []))
        tower.act(("pass", 1))
        self.assertEqual(tower.act(("deliver", "upper", 0)), [])
        self.assertEqual((tower.letters("upper"), tower.letters("lower")), ([], [down(answer)]))
        told = tower.act(("deliver", "lower", 0))
        self.assertEqual(told, [("answered", (0, "s", GET_A, ANY), ([1], 1, []))])
        self.assertEqual((tower.letters("upper"), tower.letters("lower")), ([], []))
        self.assertEqual(tower.answers(), [(0, 3, 0, 1, ([1], 1, []))])

    def test_the_way_of_a_lease_and_of_its_return(self):
        tower = tower_after(("read", 1, "s", GET_A, NEWEST), ("deliver", "lower", 1), ("deliver", "upper", 0))
        leased = ("leased", 0, 0, 0, 0, ("a", "a"), 20, 0, 0)
        self.assertEqual(tower.letters("upper"), [down(leased)])
        tower.act(("deliver", "upper", 0))
        self.assertEqual(tower.letters("lower")[1:], [down(("leased", 1, 0, 1, 0, ("a", "a"), 20, 0, 0))])
        self.assertEqual(tower.relay().holders(), {0: [(1, 0)]})
        tower.act(("deliver", "lower", 1))
        self.assertEqual(tower.host(1).leases(), {0: (("a", "a"), 20, 0)})
        tower.act(("write", A1))
        tower.act(("deliver", "upper", 0))
        self.assertEqual(tower.letters("lower")[1:], [down(("recall", 1, 0, 0))])
        tower.act(("deliver", "lower", 1))
        self.assertEqual(tower.letters("lower")[1:], [up(("return", 1, 0, 0))])
        tower.act(("deliver", "lower", 1))
        self.assertEqual(tower.letters("upper"), [up(("return", 0, 0, 0))])
        tower.act(("deliver", "upper", 0))
        self.assertEqual(tower.store().ledger(), [(0, A1)])

    def test_notes_go_down_to_each_host(self):
        tower = tower_after(("write", A1), ("deliver", "upper", 1))
        expected = [down(("note", host, 1, 0, A1)) for host in [0, 1]]
        self.assertEqual(tower.letters("lower"), expected)
        tower.act(("deliver", "lower", 1))
        self.assertEqual([tower.host(host).mark() for host in [0, 1]], [0, 1])

    def test_letters_in_any_order(self):
        tower = tower_after(("write", A1), ("write", B2))
        kinds = [letter[0] for _, letter in tower.letters("upper")]
        self.assertEqual(kinds, ["written", "note", "written", "note"])
        tower.act(("deliver", "upper", 3))
        self.assertEqual((tower.relay().host().mark(), tower.letters("lower")), (0, []))
        tower.act(("deliver", "upper", 1))
        self.assertEqual(tower.relay().host().mark(), 2)
        self.assertEqual([letter[1:3] for _, letter in tower.letters("lower")], [(0, 1), (1, 1), (0, 2), (1, 2)])

    def test_lose(self):
        tower = tower_after(("write", A1), READ_A, ("read", 1, "s", GET_A, ANY))
        tower.act(("lose", "lower", 0))
        self.assertEqual(tower.letters("lower"), [up(("fetch", 1, 0, 0, LIST_A))])
        self.assertEqual(len(tower.letters("upper")), 2)
        tower.act(("lose", "upper", 1))
        self.assertEqual(tower.letters("upper"), [down(("written", 0, -1, 0, 1, 0))])
        self.assertEqual(len(tower.letters("lower")), 1)

    def test_double(self):
        tower = tower_after(("write", A1), READ_A)
        tower.act(("double", "upper", 1))
        self.assertEqual(tower.letters("upper")[2:], tower.letters("upper")[1:2])
        self.assertEqual(len(tower.letters("lower")), 1)
        tower.act(("double", "lower", 0))
        self.assertEqual(tower.letters("lower"), [up(("fetch", 0, 0, 0, LIST_A))] * 2)
        self.assertEqual(len(tower.letters("upper")), 3)

    def test_letters_that_come_twice(self):
        tower = tower_after(READ_A, ("double", "lower", 0))
        told = deliver_all(tower)
        self.assertEqual(len(told), 1)
        self.assertEqual(tower.waiting(), [])

    def test_each_network_holds_400_letters(self):
        tower = tower_after(rooms=[400])
        while len(tower.letters("upper")) < 400:
            tower.act(("beat",))
        tower.act(("beat",))
        tower.act(("write", A1))
        self.assertEqual(len(tower.letters("upper")), 400)
        self.assertEqual(tower.letters("upper")[-1], down(("beat", 0, 0, 0)))
        tower.act(READ_A)
        self.assertEqual(len(tower.letters("lower")), 1)
        while len(tower.letters("lower")) < 400:
            tower.act(("double", "lower", 0))
        tower.act(("nudge", 0))
        self.assertEqual(len(tower.letters("lower")), 400)
        tower.act(("deliver", "lower", 0))
        self.assertEqual((len(tower.letters("upper")), len(tower.letters("lower"))), (400, 399))


class HostEvents(unittest.TestCase):
    """Point 94: reads, nudges, drifts and falls of hosts below."""

    def test_read(self):
        tower = tower_after(READ_A)
        self.assertEqual(tower.waiting(), [0])
        self.assertEqual(tower.host(0).waiting(), [(0, "s", GET_A, ANY)])
        tower.act(("read", 1, "t", [("get", "b")], ("age", 3)))
        self.assertEqual(tower.host(1).waiting(), [(1, "t", [("get", "b")], ("age", 3))])
        self.assertEqual(tower.waiting(), [0, 1])
        self.assertEqual([letter[1] for _, letter in tower.letters("lower")], [0, 1])

    def test_a_read_that_is_answered_at_once(self):
        tower = tower_after(READ_A)
        deliver_all(tower)
        self.assertEqual(tower.act(READ_A), [("answered", (1, "s", GET_A, ANY), ([None], 0, []))])
        self.assertEqual((tower.letters("upper"), tower.letters("lower")), ([], []))

    def test_waiting_is_ascending(self):
        tower = tower_after(*[("read", host, "s", GET_A, ANY) for host in [1, 0, 1, 0]])
        self.assertEqual(tower.waiting(), [0, 1, 2, 3])

    def test_give_up(self):
        tower = tower_after(READ_A, ("read", 1, "s", GET_A, ANY), READ_A)
        self.assertEqual(tower.act(("give_up", 1)), [])
        self.assertEqual(tower.waiting(), [0, 2])
        tower.act(("give_up", 0))
        self.assertEqual(tower.host(0).waiting(), [(2, "s", GET_A, ANY)])

    def test_nudge_of_a_host_below(self):
        tower = tower_after(READ_A, ("lose", "lower", 0))
        self.assertEqual(tower.act(("nudge", 1)), [])
        self.assertEqual(tower.letters("lower"), [])
        tower.act(("nudge", 0))
        self.assertEqual(tower.letters("lower"), [up(("fetch", 0, 0, 1, LIST_A))])

    def test_a_nudge_may_answer(self):
        tower = tower_after(READ_A, ("pass", 9))
        deliver_all(tower)
        tower.act(("pass", 5))
        tower.act(("drift", 0, 3))
        self.assertEqual(tower.act(("read", 0, "s", GET_A, ("age", 8))), [])
        tower.act(("drift", 0, 0))
        told = tower.act(("nudge", 0))
        self.assertEqual([event[2] for event in told], [([None], 0, [("at", 9, 0)])])

    def test_drift_of_a_host_below(self):
        for error, count in [(-3, 1), (-2, 1), (-1, 0), (3, 0)]:
            tower = tower_after(READ_A)
            deliver_all(tower)
            tower.act(("drift", 0, error))
            # The latest possible time is 3 and the error.
            self.assertEqual(len(tower.act(("read", 0, "s", GET_A, ("age", 1)))), count)

    def test_drift_is_of_one_only(self):
        tower = tower_after(READ_A, ("read", 1, "s", GET_A, ANY))
        deliver_all(tower)
        for who in [-1, 1]:
            tower.act(("drift", who, 3))
        self.assertEqual(len(tower.act(("read", 0, "s", GET_A, ("age", 3)))), 1)
        self.assertEqual(len(tower.act(("read", 1, "s", GET_A, ("age", 3)))), 0)

    def test_drift_of_one_who_is_down(self):
        tower = tower_after(("fall", 0), ("drift", 0, -3), ("rise", 0), READ_A)
        deliver_all(tower)
        self.assertEqual(len(tower.act(("read", 0, "s", GET_A, ("age", 0)))), 1)

    def test_fall_and_rise_of_a_host_below(self):
        tower = tower_after(READ_A, ("read", 1, "s", GET_A, ANY), ("fall", 0))
        self.assertEqual([tower.is_up(who) for who in [-1, 0, 1]], [True, False, True])
        self.assertEqual(tower.waiting(), [1])
        self.assertEqual(host_state(tower.host(0)), (1,) + NEW_HOST[1:])
        self.assertEqual(tower.act(("rise", 0)), [])
        self.assertTrue(tower.is_up(0))
        tower.act(READ_A)
        self.assertEqual(tower.letters("lower")[-1], up(("fetch", 0, 1, 0, LIST_A)))

    def test_letters_to_a_host_below_that_is_down(self):
        tower = tower_after(("write", A1), ("deliver", "upper", 1), ("fall", 0))
        self.assertEqual(tower.act(("deliver", "lower", 0)), [])
        self.assertEqual(host_state(tower.host(0)), (1,) + NEW_HOST[1:])
        self.assertEqual(len(tower.letters("lower")), 1)
        tower.act(("rise", 0))
        tower.act(("deliver", "lower", 0))
        self.assertEqual([tower.host(host).mark() for host in [0, 1]], [0, 1])

    def test_letters_to_another_incarnation(self):
        tower = tower_after(READ_A, ("deliver", "lower", 0), ("fall", 0), ("rise", 0))
        deliver_all(tower)
        self.assertEqual(host_state(tower.host(0)), (1,) + NEW_HOST[1:])
        self.assertEqual(tower.answers(), [])


class RelayEvents(unittest.TestCase):
    """Point 94: what happens at the relay."""

    def test_relay_beat(self):
        tower = tower_after(("relay_beat",))
        self.assertEqual((tower.letters("upper"), tower.letters("lower")), ([], []))
        for event in [("write", A1), ("pass", 3), ("deliver", "upper", 1)]:
            tower.act(event)
        while tower.letters("lower"):
            tower.act(("lose", "lower", 0))
        self.assertEqual(tower.act(("relay_beat",)), [])
        self.assertEqual(tower.letters("lower"), [down(("beat", host, 0, 1)) for host in [0, 1]])
        self.assertEqual(len(tower.letters("upper")), 1)

    def test_nudge_of_the_relay(self):
        tower = tower_after(READ_A, ("deliver", "lower", 0), ("lose", "upper", 0))
        self.assertEqual(tower.act(("nudge", -1)), [])
        self.assertEqual((tower.letters("upper"), tower.letters("lower")), ([up(("fetch", 0, 0, 1, LIST_A))], []))

    def test_a_nudge_sends_recalls_down_again(self):
        tower = tower_after(("read", 1, "s", GET_A, NEWEST))
        deliver_all(tower)
        for event in [("write", A1), ("deliver", "upper", 0), ("lose", "lower", 0)]:
            tower.act(event)
        tower.act(("nudge", -1))
        self.assertEqual((tower.letters("upper"), tower.letters("lower")), ([], [down(("recall", 1, 0, 0))]))

    def test_drift_of_the_relay(self):
        for error, granted in [(-3, True), (0, True), (1, False), (3, False)]:
            tower = tower_after(
                ("read", 0, "s", GET_A, NEWEST), ("drift", 0, -3), ("drift", -1, error), lease_length=4
            )
            tower.act(("deliver", "lower", 1))
            tower.act(("deliver", "upper", 0))
            # The lease ends at 4, and the latest possible time is 3 and the error.
            tower.act(("deliver", "upper", 0))
            self.assertEqual(len(tower.letters("lower")), 2 if granted else 1)

    def test_the_reading_of_the_relay_when_a_host_below_asks(self):
        for error, holders in [(-3, [(0, 0), (1, 0)]), (2, [(0, 0)])]:
            tower = tower_after(("read", 0, "s", GET_A, NEWEST), lease_length=5)
            deliver_all(tower)
            tower.act(("drift", -1, error))
            tower.act(("read", 1, "t", GET_A, NEWEST))
            tower.act(("deliver", "lower", 1))
            self.assertEqual(tower.relay().holders(), {0: holders})

    def test_the_reading_of_the_relay_when_it_is_nudged(self):
        for error, holders in [(-3, {0: [(0, 0)]}), (2, {})]:
            tower = tower_after(("read", 0, "s", GET_A, NEWEST), ("drift", -1, 2), lease_length=5)
            for net, index in [("lower", 1), ("upper", 0), ("upper", 0)]:
                tower.act(("deliver", net, index))
            self.assertEqual(tower.relay().holders(), {})
            tower.act(("drift", -1, error))
            tower.act(("nudge", -1))
            self.assertEqual(tower.relay().holders(), holders)

    def test_fall_and_rise_of_the_relay(self):
        tower = tower_after(READ_A, ("deliver", "lower", 0), ("fall", -1))
        self.assertEqual([tower.is_up(who) for who in [-1, 0, 1]], [False, True, True])
        self.assertEqual(tower.waiting(), [0])
        self.assertEqual(host_state(tower.relay().host()), (1,) + NEW_HOST[1:])
        tower.act(("rise", -1))
        self.assertTrue(tower.is_up(-1))
        tower.act(("nudge", -1))
        # The fetch of the host below is forgotten, until that host is nudged.
        self.assertEqual(len(tower.letters("upper")), 1)
        tower.act(("nudge", 0))
        tower.act(("deliver", "lower", 0))
        self.assertEqual(tower.letters("upper")[1:], [up(("fetch", 0, 1, 0, LIST_A))])
        told = deliver_all(tower)
        self.assertEqual([event[2] for event in told], [([None], 0, [])])

    def test_letters_to_a_relay_that_is_down(self):
        tower = tower_after(("write", A1), READ_A, ("fall", -1))
        self.assertEqual(tower.act(("deliver", "upper", 1)), [])
        self.assertEqual(tower.act(("deliver", "lower", 0)), [])
        self.assertEqual(host_state(tower.relay().host()), (1,) + NEW_HOST[1:])
        self.assertEqual((len(tower.letters("upper")), tower.letters("lower")), (1, []))
        tower.act(("rise", -1))
        tower.act(("nudge", -1))
        self.assertEqual(len(tower.letters("upper")), 1)

    def test_letters_to_an_earlier_incarnation_of_the_relay(self):
        tower = tower_after(READ_A, ("deliver", "lower", 0), ("deliver", "upper", 0), ("fall", -1), ("rise", -1))
        tower.act(("deliver", "upper", 0))
        self.assertEqual(host_state(tower.relay().host()), (1,) + NEW_HOST[1:])

    def test_hosts_below_go_on_while_the_relay_is_down(self):
        tower = tower_after(READ_A)
        deliver_all(tower)
        tower.act(("fall", -1))
        self.assertEqual(len(tower.act(READ_A)), 1)
        self.assertEqual(tower.act(("nudge", 1)), [])

    def test_a_fall_of_the_relay_forgets_its_holders(self):
        tower = tower_after(("read", 0, "s", GET_A, NEWEST))
        deliver_all(tower)
        self.assertEqual(tower.relay().holders(), {0: [(0, 0)]})
        tower.act(("fall", -1))
        self.assertEqual(tower.relay().holders(), {})


class Errors(unittest.TestCase):
    """Point 94, the errors, and point 2: an event that raises changes nothing."""

    def check(self, setup, event, error):
        before = tower_state(setup)
        with self.assertRaises(error, msg=event):
            setup.tower.act(event)
        self.assertEqual(tower_state(setup), before)

    def test_hosts_that_do_not_exist(self):
        setup = setup_after(READ_A, ("fall", 1))
        for who in [-2, -3, 2, 3, 999999, -999999]:
            for event in [("drift", who, 1), ("nudge", who), ("fall", who), ("rise", who)]:
                self.check(setup, event, NotFound)

    def test_the_relay_has_no_reads(self):
        for events in [[], [("fall", -1)]]:
            setup = setup_after(*events)
            for host in [-1, -2, 2, 999999]:
                self.check(setup, ("read", host, "s", GET_A, ANY), NotFound)
            setup.tower.act(READ_A)
            self.assertEqual(setup.tower.waiting(), [0])

    def test_letters_that_do_not_exist(self):
        for events in [[], [("beat",)], [READ_A], [("beat",), READ_A, READ_A, ("write", A1)]]:
            setup = setup_after(*events)
            for net in ["upper", "lower"]:
                held = len(setup.tower.letters(net))
                for index in [-1, -held - 1, held, held + 1, 400, 999999]:
                    for word in ["deliver", "lose", "double"]:
                        self.check(setup, (word, net, index), NotFound)

    def test_reads_that_do_not_wait(self):
        setup = setup_after(READ_A, ("read", 1, "s", GET_A, ANY), READ_A, ("give_up", 2))
        deliver_all(setup.tower)
        for number in [-1, 0, 1, 2, 3, 999999]:
            self.check(setup, ("give_up", number), NotFound)
        setup = setup_after(READ_A, ("fall", 0))
        self.check(setup, ("give_up", 0), NotFound)

    def test_those_who_are_down(self):
        setup = setup_after(("fall", 1), ("fall", -1))
        for event in [
            ("read", 1, "s", GET_A, ANY), ("nudge", 1), ("fall", 1), ("nudge", -1), ("fall", -1), ("relay_beat",),
        ]:
            self.check(setup, event, IsDown)
        setup.tower.act(READ_A)
        self.assertEqual(setup.tower.waiting(), [0])

    def test_those_who_are_up(self):
        setup = setup_after(READ_A)
        for who in [-1, 0, 1]:
            self.check(setup, ("rise", who), IsUp)
            setup.tower.act(("fall", who))
            setup.tower.act(("rise", who))
            self.check(setup, ("rise", who), IsUp)

    def test_a_store_that_is_down_or_up(self):
        setup = setup_after(READ_A)
        self.check(setup, ("store_rise",), IsUp)
        setup.tower.act(("store_fall",))
        self.check(setup, ("store_fall",), IsDown)

    def test_double_in_a_full_network(self):
        setup = setup_after(READ_A, ("beat",))
        for net, other in [("upper", "lower"), ("lower", "upper")]:
            while len(setup.tower.letters(net)) < 400:
                setup.tower.act(("double", net, 0))
            for index in [0, 399]:
                self.check(setup, ("double", net, index), Full)
            for index in [-1, 400]:
                self.check(setup, ("double", net, index), NotFound)
            setup.tower.act(("lose", net, 5))
            setup.tower.act(("double", net, 0))
            self.assertEqual(len(setup.tower.letters(net)), 400)

    def test_in_long_runs(self):
        chance = seeded(94)
        raised = 0
        for _ in range(20):
            setup = some_setup(chance)
            for _ in range(100):
                event = some_event(chance, setup)
                before = tower_state(setup)
                if try_event(setup.tower, event) is None:
                    raised += 1
                    self.assertEqual(tower_state(setup), before)
        self.assertGreater(raised, 50)


class Memory(unittest.TestCase):
    """Point 93: time, floors, answers and waiting reads, as in a world."""

    def test_floors_and_answers(self):
        tower = tower_after(("write", A1), ("pass", 3), READ_A)
        deliver_all(tower)
        self.assertEqual(tower.floors(), {"s": 1})
        tower.act(("pass", 2))
        tower.act(("read", 0, "t", GET_A, ("age", 8)))
        expected = [(0, 3, 0, 1, ([1], 1, [])), (1, 5, 0, 1, ([1], 1, [("at", 3, 1)]))]
        self.assertEqual((tower.answers(), tower.floors()), (expected, {"s": 1, "t": 1}))
        tower.act(("write", B2))
        tower.act(READ_A)
        self.assertEqual(tower.answers()[2:], [(2, 5, 1, 2, ([1], 1, []))])

    def test_a_floor_of_0_is_not_told(self):
        tower = tower_after(READ_A)
        deliver_all(tower)
        self.assertEqual((len(tower.answers()), tower.floors()), (1, {}))

    def test_the_floors_are_passed_to_the_hosts(self):
        tower = tower_after(("read", 1, "t", GET_A, ANY))
        deliver_all(tower)
        tower.act(("write", A1))
        tower.act(("deliver", "upper", 1))
        tower.act(READ_A)
        told = deliver_all_but_notes(tower)
        self.assertEqual([event[2][1] for event in told], [1])
        # Host 1 still has the records of moment 0, which are too old for session s only.
        self.assertEqual(tower.act(("read", 1, "s", GET_A, ANY)), [])
        self.assertEqual(len(tower.act(("read", 1, "t", GET_A, ANY))), 1)

    def test_lists_and_dicts_are_new(self):
        setup = setup_after(("write", A1), READ_A)
        deliver_all(setup.tower)
        setup.tower.act(("read", 1, "s", GET_A, NEWEST))
        before = tower_state(setup)
        for _ in range(2):
            setup.tower.answers()[0][4][0].append(5)
            setup.tower.answers()[0][4][2].append(("lease", 5))
            setup.tower.answers().clear()
            setup.tower.floors()["s"] = 9
            setup.tower.letters("lower").clear()
            setup.tower.letters("upper").append("x")
            setup.tower.waiting().clear()
            self.assertEqual(tower_state(setup), before)

    def test_events_that_are_told_are_new(self):
        setup = setup_after(READ_A)
        told = deliver_all(setup.tower)
        before = tower_state(setup)
        told[0][1][2].append(("get", "b"))
        told[0][2][0].append(5)
        told[0][2][2].append(("lease", 5))
        self.assertEqual(tower_state(setup), before)

    def test_questions_are_copied_and_events_not_modified(self):
        tower = tower_after()
        questions = [("get", "a")]
        event = ("read", 0, "s", questions, ANY)
        tower.act(event)
        questions.append(("get", "b"))
        self.assertEqual(tower.host(0).waiting(), [(0, "s", GET_A, ANY)])
        self.assertEqual(deliver_all(tower)[0][1], (0, "s", GET_A, ANY))
        self.assertEqual(event, ("read", 0, "s", [("get", "a"), ("get", "b")], ANY))


def deliver_all_but_notes(tower):
    """Deliver the letters of both networks that are no notes to host 1."""
    told = []
    while True:
        waiting = [
            (net, index) for net in ["upper", "lower"]
            for index, (_, letter) in enumerate(tower.letters(net)) if letter[:2] != ("note", 1)
        ]
        if not waiting:
            return told
        told.extend(tower.act(("deliver",) + waiting[0]))


if __name__ == "__main__":
    unittest.main()
