"""Rows that show that clauses keep themselves, and papers of these."""

from keptclauses.beats import beat_clauses, clause_behind, things_of
from keptclauses.searching import Search, answered


class Prover:
    """One search over a list of clauses, kept over many asks, so that what is learned serves again."""

    def __init__(self, many, clauses):
        self.search = Search(many, clauses)

    def rows_for(self, end):
        """Rows whose last clause lies within end, which follows from the clauses."""
        answer = answered(self.search, [-sign for sign in end])
        return answer[2]


def beats_prover(machine, clauses):
    """A prover for clauses of the boxes and the beat's clauses behind them."""
    return Prover(things_of(machine), clauses + beat_clauses(machine))


def kept_rows(machine, prover, clauses):
    """For each kept clause, rows to it as it is behind the beat."""
    return [prover.rows_for(clause_behind(machine, clause)) for clause in clauses]


def kept_paper(machine, sign, clauses):
    """The paper of kept clauses that bar harm."""
    prover = beats_prover(machine, clauses)
    return "kept", list(clauses), kept_rows(machine, prover, clauses), prover.rows_for((sign,))
