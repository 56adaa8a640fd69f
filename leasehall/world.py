"""A world: a store, hosts with erring clocks, and the network between them."""

from leasehall.errors import IsDown, IsUp, NotFound
from leasehall.host import Host
from leasehall.network import Network
from leasehall.promises import copied_answer, floors_after, session_of
from leasehall.store import Store

MOST_DELIVERIES = 2000


def copied_event(event):
    """Return an equal event of a world with lists of its own."""
    if event[0] != "read":
        return event
    word, host, session, questions, promise = event
    return (word, host, session, list(questions), promise)


class World:
    """All that happens in it are events of point 73, one after the other."""

    def __init__(self, rooms, error_bound, lease_length):
        self._rooms = list(rooms)
        self._error_bound = error_bound
        self._lease_length = lease_length
        self._store = Store(len(rooms), lease_length)
        self._hosts = [Host(index, room, error_bound) for index, room in enumerate(rooms)]
        self._ups = [True for _ in rooms]
        self._errors = [0 for _ in rooms]
        self._network = Network()
        self._time = 0
        self._floors = {}
        self._read_count = 0
        self._crowded_out = 0
        self._answers = []
        self._history = []

    def act(self, event):
        """Let an event happen and return the list of the events that hosts told."""
        is_up, letters, told = self._happen(event)
        for letter in letters:
            if not self._network.send(is_up, letter):
                self._crowded_out += 1
        for each in told:
            self._note(each)
        self._history.append(copied_event(event))
        return told

    def calm_round(self):
        """Do a calm round; return the events that hosts told, and whether it was full."""
        lost_before = self._crowded_out
        told = []
        for index in range(len(self._hosts)):
            if self._ups[index]:
                told.extend(self.act(("nudge", index)))
        deliveries = 0
        while self._network.letters() and deliveries < MOST_DELIVERIES:
            told.extend(self.act(("deliver", 0)))
            deliveries += 1
        is_done = not self._network.letters()
        told.extend(self.act(("pass", 1)))
        told.extend(self.act(("beat",)))
        return (told, is_done and self._crowded_out == lost_before)

    def time(self):
        """Return the time."""
        return self._time

    def reading(self, host):
        """Return the reading of the clock of a host."""
        return self._time + self._errors[host]

    def floors(self):
        """Return the dict of the floors above 0."""
        return dict(self._floors)

    def letters(self):
        """Return the list of the letters in the network as tuples (is_up, letter)."""
        return self._network.letters()

    def crowded_out(self):
        """Return the number of letters that were lost for want of room in the network."""
        return self._crowded_out

    def store(self):
        """Return the store."""
        return self._store

    def host(self, index):
        """Return a host."""
        return self._hosts[index]

    def is_up(self, host):
        """Tell whether a host is up."""
        return self._ups[host]

    def answers(self):
        """Return the list of the tuples (number, time, floor, commits, answer)."""
        return [answered[:4] + (copied_answer(answered[4]),) for answered in self._answers]

    def history(self):
        """Return the list of all events that raised no error."""
        return [copied_event(event) for event in self._history]

    def waiting(self):
        """Return the ascending list of the numbers of the reads that wait."""
        return sorted([read[0] for host in self._hosts for read in host.waiting()])

    def setup(self):
        """Return the tuple (rooms, error bound, lease length) of which the world was made."""
        return (list(self._rooms), self._error_bound, self._lease_length)

    def _happen(self, event):
        """Return whether letters go up, the letters that are sent, and the events told."""
        word = event[0]
        if word in ("pass", "beat", "store_fall", "store_rise"):
            return (False, self._act_at_store(event), [])
        if word in ("deliver", "lose", "double"):
            return self._act_at_network(word, event[1])
        if word == "give_up":
            self._give_up(event[1])
            return (True, [], [])
        letters, told = self._act_at_host(event)
        return (True, letters, told)

    def _act_at_store(self, event):
        word = event[0]
        if word == "pass":
            self._time += event[1]
            return self._store.settle(self._time)
        if word == "beat":
            return self._store.beat(self._time)
        if word == "store_rise":
            return self._store.rise(self._time)
        self._store.fall()
        return []

    def _act_at_network(self, word, index):
        if word == "lose":
            self._network.lose(index)
            return (True, [], [])
        if word == "double":
            self._network.double(index)
            return (True, [], [])
        is_up, letter = self._network.deliver(index)
        if is_up:
            return (False, self._store.handle(letter, self._time), [])
        letters, told = self._hand_down(letter)
        return (True, letters, told)

    def _hand_down(self, letter):
        host = letter[1]
        if not self._ups[host]:
            return ([], [])
        return self._hosts[host].handle(letter, self.reading(host), self._floors)

    def _act_at_host(self, event):
        word, index = event[:2]
        if not 0 <= index < len(self._hosts):
            raise NotFound()
        if word == "drift":
            self._errors[index] = event[2]
            return ([], [])
        if word == "rise":
            if self._ups[index]:
                raise IsUp()
            self._ups[index] = True
            return ([], [])
        if not self._ups[index]:
            raise IsDown()
        return self._act_at_host_up(event)

    def _act_at_host_up(self, event):
        word, index = event[:2]
        host = self._hosts[index]
        if word == "fall":
            self._ups[index] = False
            host.fall()
            return ([], [])
        if word == "nudge":
            return host.nudge(self.reading(index), self._floors)
        if word == "write":
            _, _, session, group = event
            return host.write(session, group)
        _, _, session, questions, promise = event
        read = (self._read_count, session, questions, promise)
        self._read_count += 1
        return host.ask(read, self.reading(index), self._floors)

    def _give_up(self, number):
        for host in self._hosts:
            if number in [read[0] for read in host.waiting()]:
                host.give_up(number)
                return
        raise NotFound()

    def _note(self, told):
        if told[0] == "answered":
            _, read, answer = told
            floor = self._floors.get(session_of(told), 0)
            commits = self._store.moment()
            self._answers.append((read[0], self._time, floor, commits, copied_answer(answer)))
        self._floors = floors_after(self._floors, told)
