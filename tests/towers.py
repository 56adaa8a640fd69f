"""A store, a relay and hosts below it, for the tests of the relay."""

from leasehall.errors import CacheError
from leasehall.host import Host
from leasehall.network import Network
from leasehall.promises import floors_after
from leasehall.relay import Relay
from leasehall.store import Store
from samples import some_group
from worlds import SESSIONS, some_promise, some_questions


class Bench:
    """Two networks, a relay with the index 0 between them, and hosts below."""

    def __init__(self, relay_room, rooms, error_bound, lease_length):
        self.error_bound = error_bound
        self.store = Store(1, lease_length)
        self.relay = Relay(0, len(rooms), relay_room, error_bound)
        self.hosts = [Host(index, room, error_bound) for index, room in enumerate(rooms)]
        self.upper = Network()
        self.lower = Network()
        self.time = 0
        self.errors = [0] * (len(rooms) + 1)
        self.floors = {}
        self.writes = 0
        self.reads = 0

    def reading(self, who):
        """The reading of the clock of a host below, or of the relay, which is -1."""
        return self.time + self.errors[who]

    def from_store(self, letters):
        for letter in letters:
            self.upper.send(False, letter)
        return []

    def from_relay(self, sent):
        up, down = sent
        for letter in up:
            self.upper.send(True, letter)
        for letter in down:
            self.lower.send(False, letter)
        return []

    def from_host(self, sent):
        letters, told = sent
        for letter in letters:
            self.lower.send(True, letter)
        return told

    def grow(self, told):
        for event in told:
            self.floors = floors_after(self.floors, event)

    def deliver(self, name, index):
        network = getattr(self, name)
        is_up, letter = network.deliver(index)
        if name == "upper" and is_up:
            return self.from_store(self.store.handle(letter, self.time))
        if name == "upper":
            return self.from_relay(self.relay.take_down(letter, self.reading(-1)))
        if is_up:
            return self.from_relay(self.relay.take_up(letter, self.reading(-1)))
        host = letter[1]
        return self.from_host(self.hosts[host].handle(letter, self.reading(host), self.floors))

    def write(self, group):
        letter = ("write", 0, -1, self.writes, group)
        self.writes += 1
        return self.from_store(self.store.handle(letter, self.time))

    def read(self, host, session, questions, promise):
        read = (self.reads, session, questions, promise)
        self.reads += 1
        return self.from_host(self.hosts[host].ask(read, self.reading(host), self.floors))

    def arrivals(self):
        """Nudge everyone and deliver what is held; yield what is told after each step."""
        self.from_relay(self.relay.nudge(self.reading(-1)))
        for index, host in enumerate(self.hosts):
            yield self.from_host(host.nudge(self.reading(index), self.floors))
        for _ in range(1000):
            for name in ["upper", "lower"]:
                if getattr(self, name).letters():
                    yield self.deliver(name, 0)

    def let_all_arrive(self):
        """Do the same at once, and return all that is told."""
        events = []
        for told in self.arrivals():
            self.grow(told)
            events.extend(told)
        return events

    def beat(self):
        """Let everyone who can beat do so."""
        self.from_store(self.store.beat(self.time))
        self.from_relay(self.relay.beat())

    def let_pass(self, steps):
        self.time += steps
        self.from_store(self.store.settle(self.time))


def some_step(chance, bench):
    """Let something happen at the bench; return what hosts told."""
    host = chance.randrange(len(bench.hosts))
    roll = chance.random()
    if roll < 0.55:
        name = chance.choice(["upper", "lower"])
        network = getattr(bench, name)
        held = len(network.letters())
        if not held:
            return []
        index = chance.choice([0, 0, 0, held - 1, chance.randrange(held)])
        kind = chance.choice(["deliver"] * 14 + ["lose", "double", "double"])
        if kind == "deliver":
            return bench.deliver(name, index)
        if kind == "lose" or held < 400:
            getattr(network, kind)(index)
        return []
    if roll < 0.63:
        return bench.read(host, chance.choice(SESSIONS), some_questions(chance), some_promise(chance))
    if roll < 0.68:
        return bench.write(some_group(chance))
    if roll < 0.75:
        return bench.from_relay(bench.relay.nudge(bench.reading(-1)))
    if roll < 0.82:
        return bench.from_host(bench.hosts[host].nudge(bench.reading(host), bench.floors))
    if roll < 0.9:
        bench.let_pass(chance.choice([1, 1, 2, 4]))
        return []
    if roll < 0.97:
        bench.beat()
        return []
    if roll < 0.985:
        who = chance.randrange(-1, len(bench.hosts))
        bench.errors[who] = chance.randint(-bench.error_bound, bench.error_bound)
        return []
    return some_fall(chance, bench, host)


def some_fall(chance, bench, host):
    who = chance.choice(["relay", "host", "host", "store"])
    if who == "relay":
        bench.relay.fall()
    elif who == "host":
        bench.hosts[host].fall()
    else:
        try:
            bench.store.fall()
        except CacheError:
            bench.from_store(bench.store.rise(bench.time))
    return []
