"""A tower: a store, a relay, hosts below the relay, and the two networks between them."""

from leasehall.errors import IsDown, IsUp, NotFound
from leasehall.host import Host
from leasehall.network import Network
from leasehall.promises import copied_answer, floors_after, session_of
from leasehall.relay import Relay
from leasehall.store import Store

# The relay is the only host of the store; among hosts below it has no index.
RELAY = -1
RELAY_INDEX = 0

# The hosts below cannot write, so a tower writes in the name of an incarnation
# that its relay never has.
WRITER = -1


class Tower:
    """All that happens in it are events of point 94, one after the other."""

    def __init__(self, relay_room, rooms, error_bound, lease_length):
        self._store = Store(1, lease_length)
        self._relay = Relay(RELAY_INDEX, len(rooms), relay_room, error_bound)
        self._hosts = [Host(index, room, error_bound) for index, room in enumerate(rooms)]
        self._networks = {"upper": Network(), "lower": Network()}
        self._ups = {who: True for who in range(RELAY, len(rooms))}
        self._errors = {who: 0 for who in range(RELAY, len(rooms))}
        self._time = 0
        self._floors = {}
        self._read_count = 0
        self._write_count = 0
        self._answers = []

    def act(self, event):
        """Let an event happen and return the list of the events that hosts told."""
        told = self._happen(event)
        for each in told:
            self._note(each)
        return told

    def time(self):
        """Return the time."""
        return self._time

    def floors(self):
        """Return the dict of the floors above 0."""
        return dict(self._floors)

    def answers(self):
        """Return the list of the tuples (number, time, floor, commits, answer)."""
        return [answered[:4] + (copied_answer(answered[4]),) for answered in self._answers]

    def waiting(self):
        """Return the ascending list of the numbers of the reads that wait."""
        return sorted([read[0] for host in self._hosts for read in host.waiting()])

    def letters(self, net):
        """Return the list of the letters in a network as tuples (is_up, letter)."""
        return self._networks[net].letters()

    def store(self):
        """Return the store."""
        return self._store

    def relay(self):
        """Return the relay."""
        return self._relay

    def host(self, index):
        """Return a host below the relay."""
        return self._hosts[index]

    def is_up(self, who):
        """Tell whether a host below, or the relay, is up."""
        return self._ups[who]

    def _happen(self, event):
        """Let an event happen, send its letters, and return the events told."""
        word = event[0]
        if word in ("pass", "beat", "write", "store_fall", "store_rise"):
            return self._from_store(self._act_at_store(event))
        if word in ("deliver", "lose", "double"):
            return self._act_at_network(event)
        if word == "give_up":
            return self._give_up(event[1])
        if word == "relay_beat":
            return self._act_at(RELAY, event)
        # Reads come to hosts below only, and among these no one has the index -1.
        if word == "read" and event[1] == RELAY:
            raise NotFound()
        return self._act_at(event[1], event)

    def _from_store(self, letters):
        self._send("upper", False, letters)
        return []

    def _from_relay(self, sent):
        up, down = sent
        self._send("upper", True, up)
        self._send("lower", False, down)
        return []

    def _from_host(self, sent):
        letters, told = sent
        self._send("lower", True, letters)
        return told

    def _send(self, net, is_up, letters):
        for letter in letters:
            self._networks[net].send(is_up, letter)

    def _act_at_store(self, event):
        word = event[0]
        if word == "pass":
            self._time += event[1]
            return self._store.settle(self._time)
        if word == "beat":
            return self._store.beat(self._time)
        if word == "write":
            letter = ("write", RELAY_INDEX, WRITER, self._write_count, event[1])
            self._write_count += 1
            return self._store.handle(letter, self._time)
        if word == "store_rise":
            return self._store.rise(self._time)
        self._store.fall()
        return []

    def _act_at_network(self, event):
        word, net, index = event
        if word == "lose":
            self._networks[net].lose(index)
            return []
        if word == "double":
            self._networks[net].double(index)
            return []
        is_up, letter = self._networks[net].deliver(index)
        if net == "upper" and is_up:
            return self._from_store(self._store.handle(letter, self._time))
        if net == "lower" and not is_up:
            return self._hand_to_host(letter)
        return self._hand_to_relay(is_up, letter)

    def _hand_to_host(self, letter):
        index = letter[1]
        if not self._ups[index]:
            return []
        host = self._hosts[index]
        return self._from_host(host.handle(letter, self._reading(index), self._floors))

    def _hand_to_relay(self, is_up, letter):
        if not self._ups[RELAY]:
            return []
        reading = self._reading(RELAY)
        if is_up:
            return self._from_relay(self._relay.take_up(letter, reading))
        return self._from_relay(self._relay.take_down(letter, reading))

    def _act_at(self, who, event):
        """Let something happen at a host below, or at the relay."""
        word = event[0]
        if who not in self._ups:
            raise NotFound()
        if word == "drift":
            self._errors[who] = event[2]
            return []
        if word == "rise":
            if self._ups[who]:
                raise IsUp()
            self._ups[who] = True
            return []
        if not self._ups[who]:
            raise IsDown()
        if word == "fall":
            self._ups[who] = False
        if who == RELAY:
            return self._act_at_relay_up(word)
        return self._act_at_host_up(who, event)

    def _act_at_relay_up(self, word):
        if word == "fall":
            self._relay.fall()
            return []
        if word == "relay_beat":
            return self._from_relay(self._relay.beat())
        return self._from_relay(self._relay.nudge(self._reading(RELAY)))

    def _act_at_host_up(self, index, event):
        host = self._hosts[index]
        if event[0] == "fall":
            host.fall()
            return []
        if event[0] == "nudge":
            return self._from_host(host.nudge(self._reading(index), self._floors))
        _, _, session, questions, promise = event
        read = (self._read_count, session, questions, promise)
        self._read_count += 1
        return self._from_host(host.ask(read, self._reading(index), self._floors))

    def _give_up(self, number):
        for host in self._hosts:
            if number in [read[0] for read in host.waiting()]:
                host.give_up(number)
                return []
        raise NotFound()

    def _reading(self, who):
        return self._time + self._errors[who]

    def _note(self, told):
        """Remember an answer that a host told; the hosts below tell nothing else."""
        _, read, answer = told
        floor = self._floors.get(session_of(told), 0)
        commits = self._store.moment()
        self._answers.append((read[0], self._time, floor, commits, copied_answer(answer)))
        self._floors = floors_after(self._floors, told)
