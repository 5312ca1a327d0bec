"""Clauses: what they are, where they hold, and what two of them meet in."""

from keptclauses.errors import NoMeeting
from keptclauses.kinds import MOST_THINGS, is_sign, is_whole


def is_clause(thing, many=MOST_THINGS):
    """Whether it is a clause for so many things."""
    if not isinstance(thing, tuple):
        return False
    last = 0
    for sign in thing:
        if not is_sign(sign, min(many, MOST_THINGS)) or abs(sign) <= last:
            return False
        last = abs(sign)
    return True


def clause_of(signs):
    """The clause of signs in whatever order, or None where they say both of a thing."""
    chosen = {}
    for sign in signs:
        if chosen.setdefault(abs(sign), sign) != sign:
            return None
    return tuple([chosen[thing] for thing in sorted(chosen)])


def says(filling, sign):
    """Whether a filling says what a sign says."""
    return filling[abs(sign) - 1] == (sign > 0)


def holds(clause, filling):
    """Whether a clause holds by a filling."""
    return any([says(filling, sign) for sign in clause])


def within(one, other):
    """Whether each sign of the one clause is one of the other's."""
    return all([sign in other for sign in one])


def without(clause, sign):
    """The clause without a sign."""
    return tuple([other for other in clause if other != sign])


def meeting(one, other, thing):
    """What two clauses meet in, or None where they don't."""
    if not is_whole(thing) or thing < 1 or thing not in one or -thing not in other:
        return None
    # Where they are unlike in a further thing both its signs are left, and so there is no clause of these.
    return clause_of([sign for sign in one + other if abs(sign) != thing])


def met(one, other, thing):
    """What two clauses meet in, the one having thing, the other having it turned about."""
    told = meeting(one, other, thing)
    if told is None:
        raise NoMeeting(thing)
    return told
