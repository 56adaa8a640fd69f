"""Point 117: long mixed runs with a store, a relay and hosts below."""

import unittest

from leasehall.checker import is_true
from samples import seeded
from towers import Bench, some_step
from worlds import check_host, check_told


def some_bench(chance):
    rooms = [chance.choice([2, 8, 400]) for _ in range(chance.randint(1, 4))]
    room = chance.choice([2, 10, 400, 400])
    return Bench(room, rooms, chance.choice([0, 0, 1, 3]), chance.choice([2, 10, 30, 50]))


class Runs(unittest.TestCase):
    def check(self, bench, told):
        """Each answer is accepted, and what the hosts have from the relay is true."""
        floors = check_told(self, told, bench.floors, bench.store, bench.time)
        bench.grow(told)
        self.assertEqual(bench.floors, floors)
        for index, host in enumerate(bench.hosts):
            latest = bench.reading(index) + bench.error_bound
            check_host(self, host, bench.store, bench.time, latest)
        latest = bench.reading(-1) + bench.error_bound
        check_host(self, bench.relay.host(), bench.store, bench.time, latest)
        self.assertEqual(bench.relay.host().waiting(), [])

    def count(self, counts, told):
        for event in told:
            counts[event[1][3][0]] += 1

    def test_each_answer_is_accepted(self):
        chance = seeded(117)
        counts = {"any": 0, "age": 0, "newest": 0}
        for _ in range(40):
            bench = some_bench(chance)
            for step in range(240):
                told = some_step(chance, bench)
                self.check(bench, told)
                self.count(counts, told)
                if step % 60 == 59:
                    for told in bench.arrivals():
                        self.check(bench, told)
                        self.count(counts, told)
                    bench.let_pass(1)
                    bench.beat()
        self.assertTrue(all(count > 50 for count in counts.values()), counts)

    def test_a_lease_that_a_host_below_holds_is_active_until_its_end(self):
        chance = seeded(118)
        held = 0
        for _ in range(25):
            bench = some_bench(chance)
            for _ in range(240):
                bench.grow(some_step(chance, bench))
                leases, ledger = bench.store.leases(), bench.store.ledger()
                for host in bench.hosts:
                    for number, (_, until, _) in host.leases().items():
                        if bench.time < until:
                            held += 1
                            told = is_true(ledger, leases, bench.time, ("lease", number))
                            self.assertTrue(told)
        self.assertGreater(held, 100)

    def test_a_read_through_the_relay(self):
        bench = Bench(400, [400, 400], 0, 20)
        bench.write((("a", 5),))
        read = [("get", "a"), ("sum", "a", "c")]
        self.assertEqual(bench.read(0, "s", read, ("newest",)), [])
        told = bench.let_all_arrive()
        self.assertEqual([event[2][:2] for event in told], [([5, 5], 1)])
        granted = len(bench.store.leases())
        told = bench.read(1, "t", read, ("newest",)) + bench.let_all_arrive()
        # The second host below is served by the leases that the relay has.
        self.assertEqual([event[2][2] for event in told], [[("lease", 0), ("lease", 1)]])
        self.assertEqual(len(bench.store.leases()), granted)

    def test_a_write_waits_for_the_hosts_below(self):
        bench = Bench(400, [400, 400], 0, 20)
        for host in [0, 1]:
            bench.read(host, "s", [("get", "a")], ("newest",))
        self.assertEqual(len(bench.let_all_arrive()), 2)
        bench.write((("a", 5),))
        self.assertEqual(bench.store.moment(), 0)
        bench.beat()
        bench.let_all_arrive()
        self.assertEqual(bench.store.moment(), 1)
        told = bench.read(0, "s", [("get", "a")], ("newest",)) + bench.let_all_arrive()
        self.assertEqual([event[2][:2] for event in told], [([5], 1)])


if __name__ == "__main__":
    unittest.main()
