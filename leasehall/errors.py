"""The errors that the program raises."""


class CacheError(ValueError):
    """The base class of all errors of the program."""


class NotFound(CacheError):
    """There is no such host, letter, read or other named thing."""


class Full(CacheError):
    """There is no room for one more."""


class IsDown(CacheError):
    """The store or the host is down."""


class IsUp(CacheError):
    """The store or the host is up already."""


class Malformed(CacheError):
    """A line or a text is not a written form; the index tells which line."""

    def __init__(self, index):
        self.index = index
