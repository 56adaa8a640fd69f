"""A ring: which host is the home of a key."""

from leasehall.errors import Full, NotFound

LETTERS = "abcdefghijklmnopqrstuvwxyz"
SPOTS = 4096
FIRST_NUMBER = 7
FACTOR = 37


def spot(text):
    """Return the spot of a string."""
    number = FIRST_NUMBER
    for letter in text:
        number = (number * FACTOR + ord(letter)) % SPOTS
    return number


def place_spot(host, place):
    """Return the spot of a place of a host."""
    pair = LETTERS[host] + LETTERS[place]
    return spot(pair + pair)


class Ring:
    """Hosts with places at spots; a key belongs to the place at its spot or after it."""

    def __init__(self):
        self._places = {}

    def add(self, host, places):
        """Add a host with a number of places."""
        if host in self._places:
            raise Full()
        self._places[host] = places

    def remove(self, host):
        """Remove a host with its places."""
        if host not in self._places:
            raise NotFound()
        self._places.pop(host)

    def hosts(self):
        """Return the ascending list of the hosts."""
        return sorted(self._places)

    def points(self):
        """Return the ascending list of the points (spot, host, place)."""
        points = [
            (place_spot(host, place), host, place)
            for host, places in self._places.items()
            for place in range(places)
        ]
        return sorted(points)

    def homes(self, key):
        """Return the list of the hosts in the order of a walk from the key's spot."""
        start = spot(key)
        points = self.points()
        ahead = [host for at, host, _ in points if at >= start]
        behind = [host for at, host, _ in points if at < start]
        # A dict keeps each host once, at the place where the walk first met it.
        return list({host: True for host in ahead + behind})

    def home(self, key):
        """Return the first home of a key."""
        if not self._places:
            raise NotFound()
        return self.homes(key)[0]
