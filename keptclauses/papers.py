"""Whether something is a paper of what always holds: a run that harms, or kept clauses with their rows."""

from keptclauses.beats import beat_clauses, clause_behind
from keptclauses.clauses import is_clause
from keptclauses.rows import lets_rows
from keptclauses.wishes import harms, wish_sign


def is_named(thing, name, many):
    """Whether it is a tuple of so many things of which the first is this name."""
    return isinstance(thing, tuple) and len(thing) == many and isinstance(thing[0], str) and thing[0] == name


def are_clauses(machine, thing):
    """Whether it is a list of clauses of the boxes."""
    return isinstance(thing, list) and all([is_clause(clause, machine.boxes()) for clause in thing])


def lets_each(clauses, ends, thing):
    """Whether it is a list with, for each end, rows for the clauses whose last one lies within it."""
    if not isinstance(thing, list) or len(thing) != len(ends):
        return False
    return all([lets_rows(clauses, rows, end=end) for rows, end in zip(thing, ends)])


def lets_kept(machine, clauses, beats):
    """Whether these are clauses that keep themselves, and rows that show it for each of them."""
    if not are_clauses(machine, clauses):
        return False
    starts = machine.starts()
    if not all([any([sign in starts for sign in clause]) for clause in clauses]):
        return False
    ends = [clause_behind(machine, clause) for clause in clauses]
    return lets_each(clauses + beat_clauses(machine), ends, beats)


def lets_paper(machine, wish, thing):
    """Whether it is a paper for a wish of what always holds."""
    sign = wish_sign(machine, wish, "always")
    if is_named(thing, "run", 2):
        return harms(machine, wish, thing[1])
    if not is_named(thing, "kept", 4):
        return False
    word, clauses, beats, bar = thing
    return lets_kept(machine, clauses, beats) and lets_rows(clauses + beat_clauses(machine), bar, end=(sign,))
