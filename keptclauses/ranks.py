"""Whether something is a paper of what must come again: a round that harms, or kept clauses and ranks."""

from keptclauses.beats import beat_clauses, clause_behind
from keptclauses.papers import are_clauses, is_named, lets_each, lets_kept
from keptclauses.wishes import harms, wish_sign


def are_ranks(machine, thing):
    """Whether it is a list of one or more lists of clauses of the boxes."""
    return isinstance(thing, list) and len(thing) > 0 and all([are_clauses(machine, rank) for rank in thing])


def fall_ends(machine, ranks):
    """For each rank, to what its rows lead: of the first to nothing at all, then to the rank ahead, behind the beat."""
    told = [[()]]
    for rank in ranks[:-1]:
        told.append([clause_behind(machine, clause) for clause in rank])
    return told


def lets_falls(machine, sign, clauses, ranks, falls):
    """Whether it is a list of rows for each rank, by which a beat that lacks the sign leads to the rank ahead."""
    if not isinstance(falls, list) or len(falls) != len(ranks):
        return False
    behind = beat_clauses(machine) + [(-sign,)]
    for rank, ends, rows in zip(ranks, fall_ends(machine, ranks), falls):
        if not lets_each(clauses + rank + behind, ends, rows):
            return False
    return True


def lets_again(machine, wish, thing):
    """Whether it is a paper for a wish of what must come again."""
    sign = wish_sign(machine, wish, "again")
    if is_named(thing, "round", 2):
        return harms(machine, wish, thing[1])
    if not is_named(thing, "ranks", 6):
        return False
    word, clauses, beats, ranks, falls, top = thing
    if not lets_kept(machine, clauses, beats) or not are_ranks(machine, ranks):
        return False
    if not lets_falls(machine, sign, clauses, ranks, falls):
        return False
    return lets_each(clauses + beat_clauses(machine), ranks[-1], top)
