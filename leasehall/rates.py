"""Rates: how many reads of a world were answered, how late, and how far behind.

A rate is a tuple (numerator, denominator) without a common divisor above 1.
"""

from math import gcd


def rate(numerator, denominator):
    """Return the rate of two integers of at least 0; a denominator 0 makes it (0, 1)."""
    if denominator == 0:
        return (0, 1)
    divisor = gcd(numerator, denominator)
    return (numerator // divisor, denominator // divisor)


def share(world):
    """Return the rate of the answered reads among all reads."""
    return rate(len(world.answers()), len(_read_times(world)))


def mean_wait(world):
    """Return the mean time from reads to their answers."""
    came = _read_times(world)
    answers = world.answers()
    waits = [time - came[number] for number, time, _, _, _ in answers]
    return rate(sum(waits), len(answers))


def mean_lag(world):
    """Return the mean number of commits after the moments of answers."""
    answers = world.answers()
    lags = [commits - answer[1] for _, _, _, commits, answer in answers]
    return rate(sum(lags), len(answers))


def _read_times(world):
    """Return the list of the times at which the reads came, by their numbers."""
    time = 0
    times = []
    for event in world.history():
        if event[0] == "pass":
            time += event[1]
        if event[0] == "read":
            times.append(time)
    return times
