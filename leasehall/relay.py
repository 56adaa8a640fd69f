"""A relay: a host that serves hosts below it in the place of the store."""

from leasehall.host import Host
from leasehall.records import ask, cover_of, includes


class Relay:
    """A host with its own cache, and what it has sent to the hosts below.

    "Up" are the letters to the store, "down" those to the hosts below.
    """

    def __init__(self, index, below, room, error_bound):
        self._index = index
        self._below = below
        self._host = Host(index, room, error_bound)
        self._forget()

    def _forget(self):
        self._notes = {}
        self._waiting = []
        self._holders = {}
        self._recalled = {}

    def take_down(self, letter, reading):
        """Handle a letter of the store; return (up, down)."""
        if not self._host.hears(letter):
            return ([], [])
        if letter[0] == "recall":
            up, down = self._take_recall(letter[3], reading)
        else:
            up, down = self._take_other(letter, reading)
        return (up, down + self._serve(reading))

    def take_up(self, letter, reading):
        """Handle a letter of a host below; return (up, down)."""
        up = []
        down = []
        kind = letter[0]
        if kind in ("fetch", "lease") and letter not in self._waiting:
            self._waiting.append(letter)
        if kind == "return":
            up = self._take_return(letter, reading)
        if kind == "missing":
            _, below, _, first = letter
            down = self._notes_from(first, below)
        down = down + self._serve(reading)
        return (up + self._ask(), down)

    def beat(self):
        """Return (up, down) with a beat for each host below."""
        times = self._host.statements()
        if not times:
            return ([], [])
        moment = max(times)
        return ([], [("beat", below, times[moment], moment) for below in range(self._below)])

    def nudge(self, reading):
        """Send again what is open or recalled; return (up, down)."""
        # The host of a relay has no reads and writes, so it sends nothing itself.
        self._host.nudge(reading, {})
        down = []
        for lease in sorted(self._recalled):
            down.extend(self._recalls(lease))
        down = down + self._serve(reading)
        return (self._ask(), down)

    def fall(self):
        """Let the host fall, and forget all that was kept for the hosts below."""
        self._host.fall()
        self._forget()
        return ([], [])

    def host(self):
        """Return the host of the relay."""
        return self._host

    def holders(self):
        """Return the dict from the numbers of leases to the lists of their holders."""
        return {lease: list(holders) for lease, holders in self._holders.items()}

    def _take_recall(self, lease, reading):
        self._recalled[lease] = True
        if lease in self._holders:
            return ([], self._recalls(lease))
        return (self._give_back(lease, reading), [])

    def _recalls(self, lease):
        holders = self._holders.get(lease, [])
        return [("recall", below, incarnation, lease) for below, incarnation in holders]

    def _give_back(self, lease, reading):
        """Let the host handle the recall, which it did not see, and return its letters."""
        letter = ("recall", self._index, self._host.incarnation(), lease)
        letters, _ = self._host.handle(letter, reading, {})
        return letters

    def _take_other(self, letter, reading):
        if letter[0] == "note":
            _, _, number, time, group = letter
            self._notes[number] = (time, group)
        before = self._host.mark()
        letters, _ = self._host.handle(letter, reading, {})
        down = []
        for number in range(before + 1, self._host.mark() + 1):
            if number in self._notes:
                down.extend([self._note(number, below) for below in range(self._below)])
        return (letters, down)

    def _note(self, number, below):
        time, group = self._notes[number]
        return ("note", below, number, time, group)

    def _notes_from(self, first, below):
        if first < 1:
            return []
        numbers = range(first, self._host.mark() + 1)
        return [self._note(number, below) for number in numbers if number in self._notes]

    def _take_return(self, letter, reading):
        _, below, incarnation, lease = letter
        holders = self._holders.get(lease, [])
        if (below, incarnation) not in holders:
            return []
        left = [holder for holder in holders if holder != (below, incarnation)]
        if left:
            self._holders[lease] = left
            return []
        self._holders.pop(lease)
        if lease in self._recalled:
            return self._give_back(lease, reading)
        return []

    def _serve(self, reading):
        """Answer and grant what is possible, and return the letters."""
        letters = []
        left = []
        for letter in self._waiting:
            reply = self._answer(letter) if letter[0] == "fetch" else self._grant(letter, reading)
            if reply is None:
                left.append(letter)
            else:
                letters.append(reply)
        self._waiting = left
        return letters

    def _answer(self, letter):
        _, below, incarnation, number, question = letter
        times = self._host.statements()
        fitting = [
            (moment, stamp, records)
            for cover, moment, records, stamp in self._host.entries()
            if includes(cover, cover_of(question)) and moment in times
        ]
        if not fitting:
            return None
        moment, _, records = max(fitting, key=lambda found: (found[0], found[1]))
        result = ask(records, question)
        return ("answer", below, incarnation, number, question, result, moment, times[moment])

    def _grant(self, letter, reading):
        _, below, incarnation, number, asked = letter
        latest = self._host.latest(reading)
        leases = self._host.leases()
        fitting = [
            (-until, lease)
            for lease, (cover, until, _) in leases.items()
            if includes(cover, asked) and until > latest and lease not in self._recalled
        ]
        if not fitting:
            return None
        _, lease = min(fitting)
        cover, until, moment = leases[lease]
        holders = self._holders.setdefault(lease, [])
        if (below, incarnation) not in holders:
            holders.append((below, incarnation))
        time = self._host.statements()[moment]
        return ("leased", below, incarnation, number, lease, cover, until, moment, time)

    def _ask(self):
        """Open requests to the store for what still waits, and return the letters."""
        letters = []
        for letter in self._waiting:
            kind, matter = letter[0], letter[4]
            if kind == "lease" and not self._host.is_asked("lease", matter):
                letters.append(self._host.open_lease(matter))
            if kind == "fetch" and self._needs_fetch(cover_of(matter)):
                letters.append(self._host.open_fetch(cover_of(matter)))
        return letters

    def _needs_fetch(self, cover):
        has_entry = any([includes(entry[0], cover) for entry in self._host.entries()])
        return not has_entry and not self._host.is_asked("fetch", cover)
