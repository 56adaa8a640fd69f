"""The auditor: reads a transcript without any world, and lists its faults."""

from leasehall.checker import accepts
from leasehall.errors import Malformed
from leasehall.leases import as_returned, is_active, is_returned, leased_cover
from leasehall.lettertext import read_answer, read_long, read_parts
from leasehall.notation import read_name, read_promise, read_questions
from leasehall.records import touches
from leasehall.transcript import FORMS


class Auditor:
    """What the lines of a transcript say, but for those with a fault."""

    def __init__(self):
        self._line_count = 0
        self._findings = []
        self._time = 0
        self._ledger = []
        self._leases = []
        self._reads = []
        self._answered = {}
        self._floors = {}

    def read(self, line):
        """Read the next line; return the word of its finding, or None."""
        told = self._understand(line)
        word = self._fault_of(told)
        if word is None:
            self._keep(told)
        else:
            self._findings.append((self._line_count, word))
        self._line_count += 1
        return word

    def findings(self):
        """Return the list of the findings (index, word)."""
        return list(self._findings)

    def ledger(self):
        """Return the list of the commits."""
        return list(self._ledger)

    def time(self):
        """Return the time."""
        return self._time

    def floors(self):
        """Return the dict of the floors above 0."""
        return dict(self._floors)

    def _understand(self, line):
        """Return the tuple of the word and the values of a line, or None without a form."""
        try:
            parts = line.split(" ")
            word = parts[0]
            if word == "read":
                return _read_read(parts)
            if word == "answer":
                return self._read_answer(parts)
            if word not in FORMS:
                return None
            return (word,) + read_parts(FORMS[word], parts[1:])
        except Malformed:
            return None

    def _read_answer(self, parts):
        if len(parts) != 5:
            raise Malformed(0)
        number = read_long(parts[1])
        if not self._has_read(number):
            # Without the questions of the read, the rest may be anything.
            return ("answer", number, None)
        _, _, questions, _ = self._reads[number]
        return ("answer", number, read_answer(" ".join(parts[2:]), questions))

    def _has_read(self, number):
        return 0 <= number < len(self._reads)

    def _fault_of(self, told):
        """Return the first word that applies to a line, or None."""
        if told is None:
            return "form"
        if not self._is_in_order(told):
            return "order"
        if told[0] == "commit" and self._breaks_a_lease(told[3]):
            return "lease"
        if told[0] == "answer" and not self._accepts(told[1], told[2]):
            return "answer"
        return None

    def _is_in_order(self, told):
        word, first = told[:2]
        if word == "time":
            return first > self._time
        if word == "commit":
            return first == len(self._ledger) + 1 and told[2] == self._time
        if word == "lease":
            is_present = told[-2:] == (len(self._ledger), self._time)
            return first == len(self._leases) and is_present
        if word == "returned":
            return 0 <= first < len(self._leases) and not is_returned(self._leases[first])
        if word == "written":
            return 0 <= told[2] <= len(self._ledger)
        if word == "read":
            return first == len(self._reads)
        return self._has_read(first) and first not in self._answered

    def _breaks_a_lease(self, group):
        return any(
            is_active(lease, self._time) and touches(group, leased_cover(lease))
            for lease in self._leases
        )

    def _accepts(self, number, answer):
        read = self._reads[number]
        floor = self._floors.get(read[1], 0)
        return accepts(self._ledger, self._leases, self._time, floor, read, answer)

    def _keep(self, told):
        """Let a line without a fault have its effect."""
        word, first = told[:2]
        if word == "time":
            self._time = first
        elif word == "commit":
            self._ledger.append(told[2:])
        elif word == "lease":
            self._leases.append(_lease_of(told))
        elif word == "returned":
            self._leases[first] = as_returned(self._leases[first])
        elif word == "written":
            self._raise_floor(first, told[2])
        elif word == "read":
            self._reads.append(told[1:])
        else:
            self._answered[first] = True
            self._raise_floor(self._reads[first][1], told[2][1])

    def _raise_floor(self, session, moment):
        if moment > self._floors.get(session, 0):
            self._floors[session] = moment


def _read_read(parts):
    if len(parts) < 5:
        raise Malformed(0)
    word, number, session, questions = parts[:4]
    return (
        word,
        read_long(number),
        read_name(session),
        read_questions(questions),
        read_promise(parts[4:]),
    )


def _lease_of(told):
    """Return the lease of a line in the form in which a store tells of it."""
    _, _, host, incarnation, cover, until, moment, time = told
    # The transcript leaves out the request number, which the checker does not need.
    return (host, incarnation, 0, cover, until, moment, time, False)


def audit(lines):
    """Return the list of the findings of a transcript."""
    auditor = Auditor()
    for line in lines:
        auditor.read(line)
    return auditor.findings()
