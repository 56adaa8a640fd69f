"""Point 92."""

import math
import unittest

from leasehall.notation import read_history
from leasehall.rates import mean_lag, mean_wait, rate, share
from leasehall.world import World
from samples import seeded
from worlds import some_event, some_world, try_event, world_state


def world_of(*lines, first="world 0 20 400 400"):
    return read_history([first] + list(lines))


def rates_of(*lines, first="world 0 20 400 400"):
    world = world_of(*lines, first=first)
    return (share(world), mean_wait(world), mean_lag(world))


NOTHING = (0, 1)

# Host 1 has the records of moment 0, and any read of a session there is answered at once.
WARM = ["read 1 z list:a:z any", "deliver 0", "deliver 0"]


class Rates(unittest.TestCase):
    def test_the_rate_of_nothing(self):
        self.assertEqual(rate(0, 0), NOTHING)
        self.assertEqual(rate(5, 0), NOTHING)

    def test_a_numerator_of_0(self):
        for denominator in [1, 2, 7, 100]:
            self.assertEqual(rate(0, denominator), NOTHING)

    def test_common_divisors(self):
        self.assertEqual(rate(2, 4), (1, 2))
        self.assertEqual(rate(12, 18), (2, 3))
        self.assertEqual(rate(18, 12), (3, 2))
        self.assertEqual(rate(100, 75), (4, 3))

    def test_no_common_divisor(self):
        self.assertEqual(rate(3, 7), (3, 7))
        self.assertEqual(rate(7, 3), (7, 3))
        self.assertEqual(rate(1, 1), (1, 1))

    def test_a_denominator_that_divides_the_numerator(self):
        self.assertEqual(rate(12, 4), (3, 1))
        self.assertEqual(rate(5, 5), (1, 1))
        self.assertEqual(rate(9, 1), (9, 1))

    def test_all_small_ones(self):
        for numerator in range(30):
            for denominator in range(1, 30):
                above, below = rate(numerator, denominator)
                self.assertEqual(above * denominator, below * numerator)
                self.assertEqual((math.gcd(above, below), below >= 1), (1, True))

    def test_large_ones(self):
        self.assertEqual(rate(6 * 10**40, 4 * 10**40), (3, 2))


class Worlds(unittest.TestCase):
    def test_no_reads(self):
        self.assertEqual(rates_of(), (NOTHING, NOTHING, NOTHING))
        self.assertEqual(rates_of("write 0 s a=1", "deliver 0", "pass 3"), (NOTHING, NOTHING, NOTHING))

    def test_no_answers(self):
        self.assertEqual(rates_of("read 0 s get:a any", "pass 4"), (NOTHING, NOTHING, NOTHING))

    def test_one_answer_at_once(self):
        self.assertEqual(rates_of(*WARM), ((1, 1), NOTHING, NOTHING))

    def test_share(self):
        self.assertEqual(rates_of(*WARM, "read 0 s get:a any")[0], (1, 2))
        self.assertEqual(rates_of(*WARM, "read 0 s get:a any", "read 0 s get:b any")[0], (1, 3))
        self.assertEqual(rates_of(*WARM, "read 1 s get:a any", "read 0 s get:b any")[0], (2, 3))
        self.assertEqual(rates_of(*WARM, "read 1 s get:a any")[0], (1, 1))

    def test_reads_that_were_given_up_or_lost_count(self):
        self.assertEqual(rates_of(*WARM, "read 0 s get:a any", "give_up 1")[0], (1, 2))
        self.assertEqual(rates_of(*WARM, "read 0 s get:a any", "read 0 s get:b any", "fall 0")[0], (1, 3))
        self.assertEqual(rates_of("read 0 s get:a any", "give_up 0"), (NOTHING, NOTHING, NOTHING))

    def test_waits(self):
        events = ["pass 2", "read 0 s get:a any", "pass 3", "deliver 0", "pass 4", "deliver 0"]
        self.assertEqual(rates_of(*events), ((1, 1), (7, 1), NOTHING))
        # Waits of 7 and 0, and of 7, 0 and 0.
        events += ["read 0 s get:a any"]
        self.assertEqual(rates_of(*events)[1], (7, 2))
        events += ["read 0 s get:a any"]
        self.assertEqual(rates_of(*events)[1], (7, 3))
        self.assertEqual(rates_of(*events, "pass 20", "read 0 s get:a any")[1], (7, 4))

    def test_waits_of_reads_that_came_at_different_times(self):
        events = [
            "read 0 s get:a any", "pass 1", "read 0 s get:a any", "pass 4", "read 0 s get:a any", "pass 2",
            "deliver 0", "deliver 0",
        ]
        # Waits of 7, 6 and 2.
        self.assertEqual(rates_of(*events)[:2], ((1, 1), (5, 1)))

    def test_reads_that_still_wait_do_not_count_for_the_mean_wait(self):
        events = ["read 0 s get:a any", "pass 4", *WARM[:1], "pass 3", "deliver 1", "deliver 1", "pass 9"]
        self.assertEqual(rates_of(*events), ((1, 2), (3, 1), NOTHING))

    def test_answers_in_another_order_than_the_reads(self):
        events = [
            "read 0 s get:a any", "pass 5", "read 1 s get:a any", "pass 2", "deliver 1", "deliver 1", "pass 6",
            "deliver 0", "deliver 0",
        ]
        # Read 1 waits 2, and then read 0 has waited 13.
        self.assertEqual(rates_of(*events)[1], (15, 2))

    def test_lags(self):
        write = ["write 0 s b=1", "deliver 0", "lose 0", "lose 0", "lose 0"]
        read = "read 1 t get:a any"
        self.assertEqual(rates_of(*WARM, *write, read), ((1, 1), NOTHING, (1, 2)))
        self.assertEqual(rates_of(*WARM, *write, *write, read)[2], (1, 1))
        # Lags of 0, 1, 1 and 3.
        self.assertEqual(rates_of(*WARM, *write, read, read, *write, *write, read)[2], (5, 4))
        self.assertEqual(rates_of(*WARM, *write, *write, *write), ((1, 1), NOTHING, NOTHING))

    def test_the_commits_at_the_time_of_the_answer(self):
        write = ["write 0 s b=1", "deliver 0", "lose 0", "lose 0", "lose 0"]
        self.assertEqual(rates_of(*WARM, *write, "read 1 t get:a any", *write)[2], (1, 2))

    def test_lags_of_answers_at_later_moments(self):
        events = [
            "write 0 s a=1", "deliver 0", "lose 0", "lose 0", "lose 0", "read 1 t get:a any", "deliver 0",
            "write 0 s a=2", "deliver 1", "deliver 0",
        ]
        self.assertEqual(rates_of(*events), ((1, 1), NOTHING, (1, 1)))

    def test_events_of_calm_rounds_count(self):
        world = World([400], 0, 20)
        world.act(("read", 0, "s", [("get", "a")], ("any",)))
        world.act(("lose", 0))
        world.act(("pass", 2))
        world.calm_round()
        world.act(("read", 0, "s", [("get", "a")], ("age", 0)))
        world.calm_round()
        self.assertEqual((share(world), mean_wait(world)), ((1, 1), (1, 1)))

    def test_mixed_worlds(self):
        chance = seeded(92)
        lags = waits = 0
        for _ in range(40):
            world = some_world(chance)
            came, told = [], 0
            waited, behind = 0, 0
            for _ in range(120):
                event = some_event(chance, world)
                events = try_event(world, event)
                if events is None:
                    continue
                if event[0] == "read":
                    came.append(world.time())
                for each in events:
                    if each[0] == "answered":
                        told += 1
                        waited += world.time() - came[each[1][0]]
                        behind += world.store().moment() - each[2][1]
            self.assertEqual(share(world), rate(told, len(came)))
            self.assertEqual(mean_wait(world), rate(waited, told))
            self.assertEqual(mean_lag(world), rate(behind, told))
            lags += behind
            waits += waited
        self.assertTrue(lags > 5 and waits > 20, (lags, waits))

    def test_nothing_is_modified(self):
        world = world_of(*WARM, "read 0 s get:a any", "pass 2")
        before = world_state(world)
        for function in [share, mean_wait, mean_lag]:
            function(world)
        self.assertEqual(world_state(world), before)


if __name__ == "__main__":
    unittest.main()
