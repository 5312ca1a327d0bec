"""Clauses of boxes that shut some stands out, and keep themselves."""

from keptclauses.beats import signs_of
from keptclauses.clauses import without
from keptclauses.tables import bit_total, lowest


def shut_clause(table, number):
    """The clause that shuts one stand out and no other one."""
    return tuple([-sign for sign in signs_of(table.stand(number))])


def leading_into(table, stands):
    """All stands from which some of these can be come to, these among them."""
    told = stands
    todo = stands
    while todo:
        number = lowest(todo)
        ahead = table.everywhere & ~table.leading(shut_clause(table, number)) & ~told
        told |= ahead
        todo = (todo | ahead) & ~(1 << number)
    return told


def thinned(table, clause, order, wanted):
    """The clause without the signs, tried in an order, that it doesn't need to hold at all wanted stands."""
    told = clause
    for sign in order:
        less = without(told, sign)
        if not wanted & ~table.holding(less):
            told = less
    return told


def clauses_around(table, number, wanted):
    """Some clauses of few signs that shut a stand out and hold at all wanted stands."""
    clause = shut_clause(table, number)
    # Which signs can go hangs on the order in which they are tried: each of them is tried first once.
    orders = [clause[place:] + clause[:place] for place in range(len(clause))]
    return [thinned(table, clause, order, wanted) for order in orders]


def covering_clauses(table, wanted, shut):
    """Clauses that hold at all wanted stands and shut others out."""
    told = []
    while shut:
        found = clauses_around(table, lowest(shut), wanted)
        worths = [(bit_total(shut & ~table.holding(clause)), clause) for clause in found]
        told.append(max(worths)[1])
        shut &= table.holding(told[-1])
    return told


def kept_worth(table, due, clause):
    """How good a clause is for keeping: few stands more that lead out, then many due ones that it shuts out."""
    out = table.everywhere & ~table.holding(clause)
    more = table.everywhere & ~table.leading(clause) & ~out & ~due
    return -bit_total(more), bit_total(out & due)


def kept_clauses(table, reached, shut, first):
    """Clauses that are kept, hold at all stands that are come to, and shut others out; first are kept, too."""
    told = list(first)
    held = table.holding_all(told)
    due = leading_into(table, shut) & held
    todo = shut & held
    while todo:
        found = clauses_around(table, lowest(todo), reached)
        worths = [(kept_worth(table, due, clause), clause) for clause in found]
        told.append(max(worths)[1])
        held &= table.holding(told[-1])
        due &= held
        todo = (todo | ~table.leading(told[-1])) & held
    return told
