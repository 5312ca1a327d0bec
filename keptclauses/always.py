"""The paper of what should always hold: a run that harms, or lean clauses that keep it."""

from keptclauses.covering import kept_clauses
from keptclauses.failing import check_clauses
from keptclauses.lean import leanest
from keptclauses.proving import kept_paper
from keptclauses.still import most_kept
from keptclauses.tables import Table
from keptclauses.walking import Walk, harming_run
from keptclauses.wishes import wish_sign


def checked_first(machine, first):
    """The clauses that are handed in to be used."""
    if isinstance(first, tuple) and len(first) == 0:
        return []
    check_clauses(machine, first)
    return first


def always(machine, wish, *, first=()):
    """The paper for a wish of what should always hold; first are clauses to be used, where they are kept."""
    sign = wish_sign(machine, wish, "always")
    handed = checked_first(machine, first)
    table = Table(machine)
    walk = Walk(table)
    bar = table.barring(sign)
    number = walk.until(table.everywhere ^ bar)
    if number is not None:
        return "run", harming_run(table, sign, walk.way_to(number))
    clauses = kept_clauses(table, walk.seen(), table.everywhere ^ bar, most_kept(table, handed))
    return kept_paper(machine, sign, leanest(table, bar, clauses))
