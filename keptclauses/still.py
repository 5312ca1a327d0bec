"""The most of some clauses that still are kept together."""

from keptclauses.failing import check_clauses
from keptclauses.tables import Table


def most_kept(table, clauses):
    """The most of these clauses that are kept together, in their order."""
    told = [clause for clause in clauses if table.begins(clause)]
    many = -1
    while many != len(told):
        many = len(told)
        stands = table.holding_all(told)
        told = [clause for clause in told if not stands & ~table.leading(clause)]
    return told


def still(machine, clauses):
    """Those of some clauses, in their order, that still are kept together by a machine."""
    check_clauses(machine, clauses)
    return most_kept(Table(machine), clauses)
