"""Kept clauses of which none can be left out, and no sign of one."""

from keptclauses.clauses import without
from keptclauses.errors import NotKept, NotLean
from keptclauses.failing import check_clauses, first_failing
from keptclauses.tables import Table
from keptclauses.wishes import wish_sign


def sums_behind(table, clauses):
    """For each place, the stands that hold all clauses from there on, and those that lead to all of these."""
    holding = table.everywhere
    leading = table.everywhere
    told = [(holding, leading)]
    for clause in reversed(clauses):
        holding &= table.holding(clause)
        leading &= table.leading(clause)
        told.append((holding, leading))
    return told[::-1]


def less_signs(table, clause, holding, leading):
    """A clause without signs that it doesn't need, beside other clauses told by their stands."""
    told = clause
    for sign in clause:
        less = without(told, sign)
        if table.begins(less) and not holding & table.holding(less) & ~(leading & table.leading(less)):
            told = less
    return told


def leaner(table, bar, clauses):
    """The clauses without what, one after the other, can be left out; bar are the stands that they may hold at."""
    behind = sums_behind(table, clauses)
    holding = table.everywhere
    leading = bar
    told = []
    for place, clause in enumerate(clauses):
        beside = holding & behind[place + 1][0]
        led = leading & behind[place + 1][1]
        if beside & ~led:
            less = less_signs(table, clause, beside, led)
            holding &= table.holding(less)
            leading &= table.leading(less)
            told.append(less)
    return told


def leanest(table, bar, clauses):
    """A lean list of clauses that are kept and hold only at stands of bar."""
    told = leaner(table, bar, clauses)
    # What one clause needed of another one may be needed no more, once the first is gone.
    while told != clauses:
        clauses = told
        told = leaner(table, bar, clauses)
    return told


def checked_table(machine, sign, clauses):
    """The machine's table, where the clauses are kept and bar harm."""
    check_clauses(machine, clauses)
    table = Table(machine)
    failing = first_failing(table, sign, clauses)
    if failing is not None:
        raise NotKept(failing)
    return table


def lean(machine, wish, clauses):
    """Of clauses that are kept and bar harm a lean list, each of whose clauses lies within one of them."""
    sign = wish_sign(machine, wish, "always")
    table = checked_table(machine, sign, clauses)
    return leanest(table, table.barring(sign), list(clauses))


def why_needed(table, sign, clauses, number):
    """What fails first without a clause, then without each of its signs."""
    clause = clauses[number]
    lesser = [(None, [])] + [(left, [without(clause, left)]) for left in clause]
    told = []
    for left, instead in lesser:
        failing = first_failing(table, sign, clauses[:number] + instead + clauses[number + 1:])
        if failing is None:
            raise NotLean(number, left)
        told.append(failing)
    return told


def why_lean(machine, wish, clauses):
    """For each clause of a lean list what fails first without it, then without each of its signs."""
    sign = wish_sign(machine, wish, "always")
    table = checked_table(machine, sign, clauses)
    return [why_needed(table, sign, clauses, number) for number in range(len(clauses))]
