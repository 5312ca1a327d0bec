"""Papers of wishes of all kinds."""

from keptclauses.again import again
from keptclauses.always import always
from keptclauses.papers import is_named, lets_paper
from keptclauses.ranks import lets_again
from keptclauses.watching import watched
from keptclauses.wishes import check_wish, harms


def kept_by(machine, wish):
    """The machine that keeps the clauses of a wish's paper, and the sign that always holds or comes again there."""
    if wish[0] == "behind":
        return watched(machine, wish[1], wish[2])[:2]
    return machine, wish[1]


def behind_answer(machine, wish):
    """The paper of what must come behind something: that of the watched machine, but a round of the first one."""
    made, sign = kept_by(machine, wish)
    paper = again(made, ("again", sign))
    if paper[0] == "ranks":
        return paper
    stand, words, back = paper[1]
    return "round", (stand[:machine.boxes()], words, back)


def lets_behind(machine, wish, thing):
    """Whether it is a paper of what must come behind something."""
    made, sign = kept_by(machine, wish)
    if is_named(thing, "round", 2):
        return harms(machine, wish, thing[1])
    return lets_again(made, ("again", sign), thing)


def answer(machine, wish):
    """The paper for a wish of any kind."""
    check_wish(machine, wish)
    if wish[0] == "always":
        return always(machine, wish)
    if wish[0] == "again":
        return again(machine, wish)
    return behind_answer(machine, wish)


def lets_answer(machine, wish, thing):
    """Whether it is a paper for a wish of any kind."""
    check_wish(machine, wish)
    if wish[0] == "always":
        return lets_paper(machine, wish, thing)
    if wish[0] == "again":
        return lets_again(machine, wish, thing)
    return lets_behind(machine, wish, thing)


def kept_of(paper):
    """The kept clauses of a paper, a list, empty where it is a run or a round."""
    return paper[1] if paper[0] in ("kept", "ranks") else []
