"""The checker: compares an answer's evidence with the ledger and the leases."""

from leasehall.leases import granted_at, is_active, leased_cover
from leasehall.promises import is_of_moment
from leasehall.records import cover_of, includes


def is_true(ledger, leases, time, statement):
    """Tell whether a statement has one of the two forms and is true at a time."""
    if statement[0] == "at" and len(statement) == 3:
        _, then, moment = statement
        return then <= time and _had_commits(ledger, then, moment)
    if statement[0] == "lease" and len(statement) == 2:
        index = statement[1]
        return 0 <= index < len(leases) and is_active(leases[index], time)
    return False


def _had_commits(ledger, time, moment):
    if not 0 <= moment <= len(ledger):
        return False
    # Commits of the same time as the statement may stand on either side.
    if moment > 0 and ledger[moment - 1][0] > time:
        return False
    return moment == len(ledger) or ledger[moment][0] >= time


def accepts(ledger, leases, time, floor, read, answer):
    """Tell whether the checker accepts an answer to a read at a time."""
    if not is_of_moment(ledger, floor, read, answer):
        return False
    _, _, questions, promise = read
    _, moment, evidence = answer
    if not all(is_true(ledger, leases, time, statement) for statement in evidence):
        return False
    if promise[0] == "any":
        return len(evidence) == 0
    if promise[0] == "age":
        return _shows_age(evidence, moment, time - promise[1])
    return _shows_newest(leases, evidence, moment, questions)


def _shows_age(evidence, moment, oldest):
    if len(evidence) != 1 or evidence[0][0] != "at":
        return False
    _, then, stated = evidence[0]
    return stated <= moment and then >= oldest


def _shows_newest(leases, evidence, moment, questions):
    if len(evidence) != len(questions):
        return False
    for question, statement in zip(questions, evidence):
        if statement[0] != "lease":
            return False
        lease = leases[statement[1]]
        if not includes(leased_cover(lease), cover_of(question)) or granted_at(lease) > moment:
            return False
    return True
