"""Rows in which clauses meet, and whether they lead to a clause."""

from keptclauses.clauses import meeting, within
from keptclauses.errors import NoRows
from keptclauses.kinds import is_number


def picked(clauses, number):
    """The clause with that number, or None where it is no number of one."""
    return clauses[number] if is_number(number, 0, len(clauses) - 1) else None


def met_clause(ahead, one, other, thing):
    """What the clauses of two rows ahead meet in, or None."""
    first = picked(ahead, one)
    second = picked(ahead, other)
    if first is None or second is None:
        return None
    return meeting(first, second, thing)


def row_clause(clauses, ahead, row):
    """The clause of a row that stands behind rows with the clauses ahead, or None where it is no row."""
    if not isinstance(row, tuple) or not row or not isinstance(row[0], str):
        return None
    if row[0] == "told" and len(row) == 2:
        return picked(clauses, row[1])
    if row[0] == "met" and len(row) == 4:
        return met_clause(ahead, row[1], row[2], row[3])
    return None


def row_clauses(clauses, rows):
    """The clauses of rows for a list of clauses."""
    if not isinstance(rows, list) or len(rows) == 0:
        raise NoRows(None)
    told = []
    for number, row in enumerate(rows):
        clause = row_clause(clauses, told, row)
        if clause is None:
            raise NoRows(number)
        told.append(clause)
    return told


def lets_rows(clauses, rows, *, end=()):
    """Whether these are rows whose last clause lies within end."""
    try:
        told = row_clauses(clauses, rows)
    except NoRows:
        return False
    return within(told[-1], end)
