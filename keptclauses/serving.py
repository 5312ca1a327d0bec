"""Elder clauses used again, behind a change of the machine."""

from keptclauses.answers import kept_by
from keptclauses.lacking import Lacks
from keptclauses.still import most_kept
from keptclauses.tables import Table


def still_keep(machine, wish, clauses):
    """Whether those of some clauses that still are kept by the machine keep the wish, too."""
    made, sign = kept_by(machine, wish)
    table = Table(made)
    stands = table.holding_all(most_kept(table, clauses))
    if wish[0] == "always":
        return not stands & ~table.barring(sign)
    return not stands & Lacks(table, sign).endless
