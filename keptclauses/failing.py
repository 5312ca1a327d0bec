"""What fails first of clauses that should be kept and bar harm."""

from keptclauses.clauses import is_clause
from keptclauses.errors import NoClauses
from keptclauses.tables import Table, lowest
from keptclauses.wishes import wish_sign


def check_clauses(machine, clauses):
    """Refuse what is no list of clauses of the boxes."""
    if not isinstance(clauses, list):
        raise NoClauses(None)
    for number, clause in enumerate(clauses):
        if not is_clause(clause, machine.boxes()):
            raise NoClauses(number)


def failing_begin(table, clauses):
    for number, clause in enumerate(clauses):
        if not table.begins(clause):
            bits = table.begun() & ~table.holding(clause)
            return "begin", number, table.stand(lowest(bits))
    return None


def failing_beat(table, clauses, stands):
    for number, clause in enumerate(clauses):
        bits = stands & ~table.leading(clause)
        if bits:
            stand = lowest(bits)
            word = table.lacking_word(table.behind_where(clause), stand)
            return "beat", number, table.stand(stand), table.coming[word]
    return None


def failing_bar(table, sign, stands):
    bits = stands & ~table.barring(sign)
    if not bits:
        return None
    stand = lowest(bits)
    return "bar", table.stand(stand), table.coming[table.lacking_word(table.where[sign], stand)]


def first_failing(table, sign, clauses):
    """What fails first of clauses, None where they are kept and bar harm."""
    failing = failing_begin(table, clauses)
    if failing is None:
        stands = table.holding_all(clauses)
        failing = failing_beat(table, clauses, stands)
        if failing is None:
            failing = failing_bar(table, sign, stands)
    return failing


def fails(machine, wish, clauses):
    """What fails first of clauses that should be kept and bar harm to a wish, None where they do."""
    sign = wish_sign(machine, wish, "always")
    check_clauses(machine, clauses)
    return first_failing(Table(machine), sign, clauses)
