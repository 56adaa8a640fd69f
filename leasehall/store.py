"""The store: the one ledger, its leases, and the writes that wait for them."""

from leasehall.errors import IsDown, IsUp
from leasehall.leases import as_returned, is_active, leased_cover, owner_of, request_of
from leasehall.ledger import MOST_COMMITS, at
from leasehall.records import ask, touches


class Store:
    """The store of a world. Times do not decrease from call to call."""

    def __init__(self, host_count, lease_length):
        self._host_count = host_count
        self._lease_length = lease_length
        self._up = True
        self._ledger = []
        self._leases = []
        self._pending = []
        self._table = {}

    def handle(self, letter, time):
        """Handle a letter of a host and return the letters that are sent."""
        if not self._up:
            return []
        kind = letter[0]
        if kind == "fetch":
            return self._answer(letter, time)
        if kind == "write":
            return self._take_write(letter, time)
        if kind == "lease":
            return self._grant(letter, time)
        if kind == "return":
            return self._take_back(letter, time)
        return self._send_missing(letter)

    def settle(self, time):
        """Commit pending writes as far as leases allow; return the letters."""
        letters = []
        while self._can_commit(time):
            letters.extend(self._commit(time))
        return letters

    def beat(self, time):
        """Return a beat for each host and the recalls that are due."""
        if not self._up:
            return []
        moment = len(self._ledger)
        beats = [("beat", host, time, moment) for host in range(self._host_count)]
        return beats + self._recalls([write[3] for write in self._pending], time)

    def fall(self):
        """Go down and forget the pending writes."""
        if not self._up:
            raise IsDown()
        self._up = False
        self._pending = []

    def rise(self, time):
        """Come up again, settle, and return the letters that are sent."""
        if self._up:
            raise IsUp()
        self._up = True
        return self.settle(time)

    def is_up(self):
        """Tell whether the store is up."""
        return self._up

    def moment(self):
        """Return the number of commits."""
        return len(self._ledger)

    def ledger(self):
        """Return the list of the commits."""
        return list(self._ledger)

    def pending(self):
        """Return the list of the pending writes."""
        return list(self._pending)

    def leases(self):
        """Return the list of all leases that were ever granted."""
        return list(self._leases)

    def _answer(self, letter, time):
        _, host, incarnation, number, question = letter
        moment = len(self._ledger)
        result = ask(at(self._ledger, moment), question)
        return [("answer", host, incarnation, number, question, result, moment, time)]

    def _take_write(self, letter, time):
        _, host, incarnation, number, group = letter
        request = (host, incarnation, number)
        if request in self._table:
            moment, then = self._table[request]
            return [("written", host, incarnation, number, moment, then)]
        if any(write[:3] == request for write in self._pending):
            return []
        self._pending.append((host, incarnation, number, group))
        return self._recalls([group], time) + self.settle(time)

    def _grant(self, letter, time):
        _, host, incarnation, number, cover = letter
        request = (host, incarnation, number)
        for index, lease in enumerate(self._leases):
            if request_of(lease) == request:
                return [self._leased(index)]
        if any(touches(write[3], cover) for write in self._pending):
            return [("denied", host, incarnation, number)]
        until = time + self._lease_length
        moment = len(self._ledger)
        self._leases.append((host, incarnation, number, cover, until, moment, time, False))
        return [self._leased(len(self._leases) - 1)]

    def _leased(self, index):
        host, incarnation, number, cover, until, moment, time, _ = self._leases[index]
        return ("leased", host, incarnation, number, index, cover, until, moment, time)

    def _take_back(self, letter, time):
        _, host, incarnation, index = letter
        if not 0 <= index < len(self._leases):
            return []
        lease = self._leases[index]
        if owner_of(lease) != (host, incarnation):
            return []
        self._leases[index] = as_returned(lease)
        return self.settle(time)

    def _send_missing(self, letter):
        _, host, _, first = letter
        if first < 1:
            return []
        return [
            ("note", host, number, time, group)
            for number, (time, group) in enumerate(self._ledger, start=1)
            if number >= first
        ]

    def _holding(self, groups, time):
        """Return the numbers of the active leases that one of the groups touches."""
        return [
            index
            for index, lease in enumerate(self._leases)
            if is_active(lease, time)
            and any([touches(group, leased_cover(lease)) for group in groups])
        ]

    def _recalls(self, groups, time):
        letters = []
        for index in self._holding(groups, time):
            host, incarnation = owner_of(self._leases[index])
            letters.append(("recall", host, incarnation, index))
        return letters

    def _can_commit(self, time):
        if not self._up or not self._pending or len(self._ledger) >= MOST_COMMITS:
            return False
        # Only the first one counts: writes are committed in the order in
        # which they came, whatever a later one could do.
        return not self._holding([self._pending[0][3]], time)

    def _commit(self, time):
        host, incarnation, number, group = self._pending.pop(0)
        self._ledger.append((time, group))
        moment = len(self._ledger)
        self._table[(host, incarnation, number)] = (moment, time)
        letters = [("written", host, incarnation, number, moment, time)]
        for index in range(self._host_count):
            letters.append(("note", index, moment, time, group))
        return letters
