"""The paper of what must come again: a round that harms, or kept clauses and ranks that fall until it comes."""

from keptclauses.beats import beat_clauses, things_of
from keptclauses.covering import covering_clauses, kept_clauses
from keptclauses.lacking import Lacks, harming_round
from keptclauses.lean import leanest
from keptclauses.proving import Prover, beats_prover, kept_rows
from keptclauses.ranks import fall_ends
from keptclauses.tables import Table
from keptclauses.walking import Walk
from keptclauses.wishes import wish_sign


def ranks_within(table, lacks, stands):
    """As few ranks as can be for these stands, the last of which holds at all of them."""
    told = [[]]
    for number in range(lacks.longest(stands) - 1, -1, -1):
        led = lacks.led_to(stands & table.holding_all(told[-1]))
        told.append(covering_clauses(table, led, stands & ~lacks.shorter[number]))
    return told[::-1]


def fall_rows(machine, sign, clauses, ranks):
    """For each rank rows by which a beat that lacks the sign leads to the rank ahead."""
    behind = beat_clauses(machine) + [(-sign,)]
    told = []
    for rank, ends in zip(ranks, fall_ends(machine, ranks)):
        prover = Prover(things_of(machine), clauses + rank + behind)
        told.append([prover.rows_for(end) for end in ends])
    return told


def ranks_paper(machine, sign, clauses, ranks):
    """The paper of kept clauses and ranks."""
    prover = beats_prover(machine, clauses)
    beats = kept_rows(machine, prover, clauses)
    top = [prover.rows_for(clause) for clause in ranks[-1]]
    return "ranks", clauses, beats, ranks, fall_rows(machine, sign, clauses, ranks), top


def again(machine, wish):
    """The paper for a wish of what must come again."""
    sign = wish_sign(machine, wish, "again")
    table = Table(machine)
    lacks = Lacks(table, sign)
    walk = Walk(table)
    number = walk.until(lacks.endless)
    if number is not None:
        return "round", harming_round(lacks, walk.way_to(number))
    # Stands from which more beats lack the sign than in any run are shut out, too: so the ranks tell of the runs.
    bar = lacks.shorter[lacks.longest(walk.seen())]
    clauses = leanest(table, bar, kept_clauses(table, walk.seen(), table.everywhere ^ bar, []))
    return ranks_paper(machine, sign, clauses, ranks_within(table, lacks, table.holding_all(clauses)))
