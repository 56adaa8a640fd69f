"""Points 93 to 95 and 117: long mixed runs of towers."""

import unittest

from leasehall.checker import accepts, is_true
from leasehall.errors import CacheError
from host_letters import host_state
from samples import seeded
from tower_runs import calm, some_event, some_setup, store_state, try_event
from towers import Bench
from worlds import check_host, check_told


class Runs(unittest.TestCase):
    def setUp(self):
        self.counts = {"any": 0, "age": 0, "newest": 0}

    def begin(self, chance):
        """A new tower, and what is known of it from its events alone."""
        self.made = some_setup(chance)
        self.tower = self.made.tower
        self.time, self.floors, self.answers = 0, {}, []
        self.homes, self.errors, self.came = {}, {who: 0 for who in range(-1, self.made.count)}, 0

    def follow(self, event):
        """Let an event happen, and check the time, floors, answers and waiting reads after it."""
        told = try_event(self.tower, event)
        if told is None:
            return None
        if event[0] == "pass":
            self.time += event[1]
        if event[0] == "drift":
            self.errors[event[1]] = event[2]
        if event[0] == "read":
            self.homes[self.came] = event[1]
            self.came += 1
        if event[0] == "give_up":
            self.homes.pop(event[1])
        if event[0] == "fall":
            self.homes = {read: home for read, home in self.homes.items() if home != event[1]}
        self.take(told)
        return told

    def take(self, told):
        """Check what was told, and remember it."""
        commits = self.tower.store().moment()
        after = check_told(self, told, self.floors, self.tower.store(), self.time)
        for word, read, answer in told:
            self.assertEqual(word, "answered")
            floor = self.floors.get(read[1], 0)
            self.answers.append((read[0], self.time, floor, commits, answer))
            self.floors[read[1]] = max(floor, answer[1])
            self.homes.pop(read[0])
            self.counts[read[3][0]] += 1
        self.floors = after
        seen = (self.tower.time(), self.tower.floors(), self.tower.answers(), self.tower.waiting())
        self.assertEqual(seen, (self.time, self.floors, self.answers, sorted(self.homes)))

    def check_hosts(self):
        """Point 51 and point 117, for the hosts below and for the host of the relay."""
        store, bound = self.tower.store(), self.made.error_bound
        for index in range(self.made.count):
            latest = self.time + self.errors[index] + bound
            check_host(self, self.tower.host(index), store, self.time, latest)
            for number, (_, until, _) in self.tower.host(index).leases().items():
                if self.time < until:
                    self.assertTrue(is_true(store.ledger(), store.leases(), self.time, ("lease", number)))
        latest = self.time + self.errors[-1] + bound
        check_host(self, self.tower.relay().host(), store, self.time, latest)

    def test_each_answer_is_accepted(self):
        """Each answer of a host below, at its time, with the ledger and the leases of the store."""
        chance = seeded(95)
        for _ in range(30):
            self.begin(chance)
            for step in range(220):
                self.follow(some_event(chance, self.made))
                self.check_hosts()
                if step % 70 == 69:
                    for told in calm(self.made):
                        self.time = self.tower.time()
                        self.take(told)
                    self.check_hosts()
        self.assertTrue(all(count > 40 for count in self.counts.values()), self.counts)

    def test_the_answers_that_a_tower_remembers(self):
        chance = seeded(96)
        for _ in range(15):
            self.begin(chance)
            reads = {}
            for _ in range(200):
                event = some_event(chance, self.made)
                came = self.came
                if self.follow(event) is not None and event[0] == "read":
                    reads[came] = (came,) + event[2:]
            numbers = [answer[0] for answer in self.tower.answers()]
            self.assertEqual(len(numbers), len(set(numbers)))
            for number, time, floor, commits, answer in self.tower.answers():
                ledger = self.tower.store().ledger()[:commits]
                if reads[number][3][0] != "newest":
                    self.assertTrue(accepts(ledger, [], time, floor, reads[number], answer))

    def test_reads_are_answered_when_everything_is_calm(self):
        """No promise of the document, but a tower in which nothing is answered would be of no use."""
        chance = seeded(97)
        answered = waited = 0
        for _ in range(20):
            self.begin(chance)
            for _ in range(60):
                self.follow(some_event(chance, self.made))
            for who in range(-1, self.made.count):
                try_event(self.tower, ("rise", who))
            try_event(self.tower, ("store_rise",))
            waited += len(self.tower.waiting())
            answered += sum([len(told) for told in calm(self.made, 4)])
        self.assertGreater(answered, waited // 2)


def mirror(bench, downs, event):
    """Let the event of a tower happen at a bench, which knows of no one who is down."""
    word = event[0]
    if word == "pass":
        return bench.let_pass(event[1]) or []
    if word == "beat":
        return bench.from_store(bench.store.beat(bench.time))
    if word == "relay_beat":
        return bench.from_relay(bench.relay.beat())
    if word == "write":
        return bench.write(event[1])
    if word == "read":
        return bench.read(*event[1:])
    if word == "nudge" and event[1] == -1:
        return bench.from_relay(bench.relay.nudge(bench.reading(-1)))
    if word == "nudge":
        host = bench.hosts[event[1]]
        return bench.from_host(host.nudge(bench.reading(event[1]), bench.floors))
    if word in ("deliver", "lose", "double"):
        return mirror_letter(bench, downs, *event)
    if word == "drift":
        bench.errors[event[1]] = event[2]
    if word == "fall":
        (bench.relay if event[1] == -1 else bench.hosts[event[1]]).fall()
        downs.append(event[1])
    if word == "rise":
        downs.remove(event[1])
    if word == "store_fall":
        bench.store.fall()
    if word == "store_rise":
        bench.from_store(bench.store.rise(bench.time))
    if word == "give_up":
        for host in bench.hosts:
            if event[1] in [read[0] for read in host.waiting()]:
                host.give_up(event[1])
    return []


def mirror_letter(bench, downs, word, net, index):
    network = getattr(bench, net)
    if word != "deliver":
        getattr(network, word)(index)
        return []
    is_up, letter = network.letters()[index]
    to = letter[1] if net == "lower" and not is_up else -1
    if to in downs and not (net == "upper" and is_up):
        network.deliver(index)
        return []
    return bench.deliver(net, index)


class Mirrors(unittest.TestCase):
    """A tower does what a store, a relay, hosts and two networks do together."""

    def test_a_bench_that_does_the_same(self):
        chance = seeded(98)
        raised = 0
        for _ in range(25):
            setup = some_setup(chance)
            bench, downs = Bench(*setup.made_of), []
            for _ in range(160):
                event = some_event(chance, setup)
                try:
                    told = setup.tower.act(event)
                except CacheError:
                    raised += 1
                    continue
                self.assertEqual(mirror(bench, downs, event), told)
                bench.grow(told)
                self.same(setup, bench, downs)
        self.assertGreater(raised, 20)

    def same(self, setup, bench, downs):
        tower = setup.tower
        self.assertEqual(tower.time(), bench.time)
        self.assertEqual(tower.letters("upper"), bench.upper.letters())
        self.assertEqual(tower.letters("lower"), bench.lower.letters())
        self.assertEqual(store_state(tower.store()), store_state(bench.store))
        self.assertEqual(host_state(tower.relay().host()), host_state(bench.relay.host()))
        self.assertEqual(tower.relay().holders(), bench.relay.holders())
        for index in range(setup.count):
            self.assertEqual(host_state(tower.host(index)), host_state(bench.hosts[index]))
        self.assertEqual([who for who in range(-1, setup.count) if not tower.is_up(who)], sorted(downs))


if __name__ == "__main__":
    unittest.main()
