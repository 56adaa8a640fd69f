"""The network: the letters that were sent and are not yet delivered or lost."""

from leasehall.errors import Full, NotFound

MOST_LETTERS = 400


class Network:
    """The letters that are held, in the order in which they were sent."""

    def __init__(self):
        self._letters = []

    def send(self, is_up, letter):
        """Append a letter and return True, or return False if it is lost."""
        if len(self._letters) >= MOST_LETTERS:
            return False
        self._letters.append((is_up, letter))
        return True

    def letters(self):
        """Return the list of the tuples (is_up, letter)."""
        return list(self._letters)

    def deliver(self, index):
        """Remove a letter that is handed to its receiver, and return its tuple."""
        self._check(index)
        return self._letters.pop(index)

    def lose(self, index):
        """Remove a letter that reaches no one, and return its tuple."""
        self._check(index)
        return self._letters.pop(index)

    def double(self, index):
        """Append a letter that is equal to the one with the index."""
        self._check(index)
        if len(self._letters) >= MOST_LETTERS:
            raise Full()
        self._letters.append(self._letters[index])

    def _check(self, index):
        # An index below 0 would count from the end.
        if not 0 <= index < len(self._letters):
            raise NotFound()
