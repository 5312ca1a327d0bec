"""Wishes, and the runs and rounds that harm them."""

from keptclauses.clauses import says
from keptclauses.errors import NoWish
from keptclauses.kinds import is_number, is_sign
from keptclauses.runs import fillings, is_run, stands

WISH_SIGNS = {"always": 1, "again": 1, "behind": 2}


def is_wish(machine, thing):
    """Whether it is a wish for the machine."""
    if not isinstance(thing, tuple) or len(thing) == 0 or not isinstance(thing[0], str):
        return False
    word, *signs = thing
    return WISH_SIGNS.get(word) == len(signs) and all([is_sign(sign, len(machine)) for sign in signs])


def check_wish(machine, wish):
    """Refuse what is no wish for the machine."""
    if not is_wish(machine, wish):
        raise NoWish("this is no wish for the machine")


def wish_sign(machine, wish, word):
    """The sign of a wish of that word alone, always or again."""
    if not is_wish(machine, wish) or wish[0] != word:
        raise NoWish("this is no such wish for the machine")
    return wish[1]


def is_round(machine, thing):
    """Whether it is a round: a run, and from which beat on it goes on without end."""
    if not isinstance(thing, tuple) or len(thing) != 3 or not is_run(machine, thing[:2]):
        return False
    back = thing[2]
    if not is_number(back, 0, len(thing[1]) - 1):
        return False
    told = stands(machine, thing[:2])
    return told[back] == told[-1]


def run_harms(machine, sign, run):
    """Whether the sign doesn't hold at the last beat of a run."""
    return not says(fillings(machine, run)[-1], sign)


def lacks(told, sign):
    """Whether the sign holds at none of these fillings."""
    return not any([says(filling, sign) for filling in told])


def stays_due(told, one, other):
    """Whether, at the end of these fillings, one held and other held neither there nor behind it."""
    due = False
    for filling in told:
        due = (due or says(filling, one)) and not says(filling, other)
    return due


def round_harms(machine, wish, ring):
    """Whether a round harms a wish of what must come."""
    told = fillings(machine, ring[:2])
    # What holds only again and again is told by the beats that go on; what was due ahead of them may stay due.
    if not lacks(told[ring[2]:], wish[-1]):
        return False
    return wish[0] == "again" or stays_due(told, wish[1], wish[2])


def harms(machine, wish, thing):
    """Whether it is a run, or a round, that harms the wish."""
    check_wish(machine, wish)
    if wish[0] == "always":
        return is_run(machine, thing) and run_harms(machine, wish[1], thing)
    return is_round(machine, thing) and round_harms(machine, wish, thing)
