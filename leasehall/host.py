"""A host: its cache, its open requests, and the reads that wait at it."""

from leasehall.entries import Shelf
from leasehall.errors import NotFound
from leasehall.promises import copied_read, floors_after
from leasehall.records import cover_of, includes

# The kind of the request that a letter of the store closes.
CLOSES = {"answer": "fetch", "leased": "lease", "denied": "lease", "written": "write"}


def stated_by(letter):
    """Return the (moment, time) of a letter of the store, or None if it has none."""
    kind = letter[0]
    if kind == "note":
        _, _, number, time, _ = letter
        return (number, time)
    if kind == "beat":
        _, _, time, moment = letter
        return (moment, time)
    if kind in ("answer", "leased", "written"):
        return letter[-2:]
    return None


def requested_cover(letter):
    """Return the cover for which a "fetch" or a "lease" asks."""
    if letter[0] == "fetch":
        return cover_of(letter[4])
    return letter[4]


class Host:
    """A host of the store. It knows the time only from readings of its clock."""

    def __init__(self, index, room, error_bound):
        self._index = index
        self._room = room
        self._error_bound = error_bound
        self._incarnation = 0
        self._begin()

    def _begin(self):
        self._shelf = Shelf(self._room)
        self._statements = {}
        self._leases = {}
        self._given_back = {}
        self._requests = {}
        self._next_number = 0
        self._waiting = []

    def handle(self, letter, reading, floors):
        """Handle a letter of the store; return (letters, events)."""
        if not self.hears(letter):
            return ([], [])
        self._note_statement(letter)
        letters, events = self._take(letter)
        events = self._answer_waiting(events, reading, floors)
        self._shelf.make_room()
        return (letters, events)

    def ask(self, read, reading, floors):
        """Let a read come to the host; return (letters, events)."""
        self._waiting.append(copied_read(read))
        return self._serve([], reading, floors)

    def nudge(self, reading, floors):
        """Send what is open or lacking again; return (letters, events)."""
        self._requests = {
            number: request
            for number, request in self._requests.items()
            if request[0][0] == "write"
        }
        # Numbers only grow, so the dict has them in ascending order.
        letters = [letter for letter, _ in self._requests.values()]
        return self._serve(letters, reading, floors)

    def write(self, session, group):
        """Let a session write a group; return (letters, events)."""
        return ([self._request("write", group, session)], [])

    def open_fetch(self, cover):
        """Open a "fetch" for the records of a cover and return the letter."""
        first, last = cover
        return self._request("fetch", ("list", first, last), None)

    def open_lease(self, cover):
        """Open a "lease" for a cover and return the letter."""
        return self._request("lease", cover, None)

    def fall(self):
        """Begin a new incarnation, which knows nothing of the earlier ones."""
        self._incarnation += 1
        self._begin()

    def give_up(self, number):
        """Remove the waiting read with this number and return it."""
        numbers = [read[0] for read in self._waiting]
        if number not in numbers:
            raise NotFound()
        return self._waiting.pop(numbers.index(number))

    def incarnation(self):
        """Return the number of times that the host has fallen."""
        return self._incarnation

    def mark(self):
        """Return the mark."""
        return self._shelf.mark()

    def waiting(self):
        """Return the list of the waiting reads."""
        return [copied_read(read) for read in self._waiting]

    def entries(self):
        """Return the list of the entries as Entry.told returns them."""
        return self._shelf.told()

    def leases(self):
        """Return the dict from numbers to tuples (cover, until, moment)."""
        return dict(self._leases)

    def statements(self):
        """Return the dict from moments to times."""
        return dict(self._statements)

    def requests(self):
        """Return the dict from the numbers of the open requests to their letters."""
        return {number: letter for number, (letter, _) in self._requests.items()}

    def hears(self, letter):
        """Tell whether a letter of the store has no other incarnation than the host's."""
        return letter[0] in ("note", "beat") or letter[2] == self._incarnation

    def latest(self, reading):
        """Return the latest possible time for a reading of the clock."""
        return reading + self._error_bound

    def is_asked(self, kind, cover):
        """Tell whether the cover of an open request of a kind contains a cover."""
        return any(
            letter[0] == kind and includes(requested_cover(letter), cover)
            for letter, _ in self._requests.values()
        )

    def _request(self, kind, matter, session):
        letter = (kind, self._index, self._incarnation, self._next_number, matter)
        self._requests[self._next_number] = (letter, session)
        self._next_number += 1
        return letter

    def _missing(self):
        return ("missing", self._index, self._incarnation, self._shelf.mark() + 1)

    def _note_statement(self, letter):
        stated = stated_by(letter)
        if stated is None:
            return
        moment, time = stated
        if moment not in self._statements or self._statements[moment] < time:
            self._statements[moment] = time

    def _take(self, letter):
        kind = letter[0]
        if kind == "note":
            _, _, number, _, group = letter
            self._shelf.note(number, group)
            return ([], [])
        if kind == "beat":
            return (self._take_beat(letter[3]), [])
        if kind == "recall":
            return ([self._give_back(letter[3])], [])
        return ([], self._take_reply(letter))

    def _take_beat(self, moment):
        if moment <= self._shelf.mark():
            return []
        if self._shelf.is_empty():
            self._shelf.jump(moment)
            return []
        return [self._missing()]

    def _give_back(self, lease):
        self._leases.pop(lease, None)
        # Its "leased" may still come, and must not bring it back.
        self._given_back[lease] = True
        return ("return", self._index, self._incarnation, lease)

    def _take_reply(self, letter):
        """Take a letter that closes an open request, and return the events."""
        kind, _, _, number = letter[:4]
        if number not in self._requests or self._requests[number][0][0] != CLOSES[kind]:
            return []
        _, session = self._requests.pop(number)
        if kind == "written":
            return [("written", session, number, letter[4])]
        if kind == "answer":
            _, _, _, _, question, result, moment, _ = letter
            self._shelf.install(cover_of(question), moment, dict(result))
        if kind == "leased":
            _, _, _, _, lease, cover, until, moment, _ = letter
            if lease not in self._given_back:
                self._leases[lease] = (cover, until, moment)
        return []

    def _serve(self, letters, reading, floors):
        """Answer the waiting reads, ask for what they lack, and make room."""
        events = self._answer_waiting([], reading, floors)
        for read in self._waiting:
            letters = letters + self._ask_for(read, self.latest(reading))
        self._shelf.make_room()
        return (letters, events)

    def _answer_waiting(self, events, reading, floors):
        """Return the events with one more for each read that can be answered."""
        told = list(events)
        for event in events:
            floors = floors_after(floors, event)
        left = []
        for read in self._waiting:
            answer = self._answer_to(read, self.latest(reading), floors.get(read[1], 0))
            if answer is None:
                left.append(read)
            else:
                told.append(("answered", read, answer))
                floors = floors_after(floors, told[-1])
        self._waiting = left
        return told

    def _answer_to(self, read, latest, floor):
        """Return the answer at the greatest moment that is possible, or None."""
        _, _, questions, promise = read
        for moment in self._shelf.common_moments(questions):
            evidence = self._evidence(questions, promise, moment, latest)
            if moment >= floor and evidence is not None:
                results = []
                for question in questions:
                    results.append(self._shelf.use(question, moment))
                return (results, moment, evidence)
        return None

    def _evidence(self, questions, promise, moment, latest):
        """Return the evidence that a promise holds for a moment, or None."""
        if promise[0] == "any":
            return []
        if promise[0] == "age":
            return self._evidence_of_age(moment, latest - promise[1])
        numbers = [self._lease_for(cover_of(question), moment, latest) for question in questions]
        if None in numbers:
            return None
        return [("lease", number) for number in numbers]

    def _evidence_of_age(self, moment, oldest):
        fitting = [
            (time, stated)
            for stated, time in self._statements.items()
            if stated <= moment and time >= oldest
        ]
        if not fitting:
            return None
        time, stated = max(fitting)
        return [("at", time, stated)]

    def _lease_for(self, cover, moment, latest):
        """Return the least number of a lease that shows a moment to be the newest, or None."""
        fitting = [
            number
            for number, (leased, until, granted) in self._leases.items()
            if includes(leased, cover) and granted <= moment and until > latest
        ]
        return min(fitting, default=None)

    def _is_leased(self, cover, latest):
        return any(
            includes(leased, cover) and until > latest for leased, until, _ in self._leases.values()
        )

    def _ask_for(self, read, latest):
        """Open requests for what a waiting read lacks, and return the letters."""
        _, _, questions, promise = read
        covers = [cover_of(question) for question in questions]
        letters = []
        for cover in covers:
            if not self._shelf.has_cover(cover) and not self.is_asked("fetch", cover):
                letters.append(self.open_fetch(cover))
        if promise[0] == "newest":
            for cover in covers:
                if not self._is_leased(cover, latest) and not self.is_asked("lease", cover):
                    letters.append(self.open_lease(cover))
        if letters or any(self.is_asked("fetch", cover) for cover in covers):
            return letters
        # The host has all covers and yet no answer: it needs a newer moment.
        letters.append(self.open_fetch(covers[0]))
        if not self._shelf.is_empty():
            letters.append(self._missing())
        return letters
