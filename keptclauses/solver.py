"""A solver of clauses that is kept over many asks."""

from keptclauses.clauses import is_clause
from keptclauses.errors import NoClause, NoNumber, NoSigns
from keptclauses.kinds import MOST_THINGS, is_number, wrong_sign
from keptclauses.searching import searched


class Solver:
    """Clauses for so many things, of which the least filling is asked under some signs."""

    def __init__(self, many):
        if not is_number(many, 1, MOST_THINGS):
            raise NoNumber("a solver has from 1 to 60 things")
        self.most = many
        self.held = []

    def __len__(self):
        return len(self.held)

    def __eq__(self, other):
        return isinstance(other, Solver) and self.most == other.most and self.held == other.held

    def put(self, clause):
        """Put one more clause to it, perhaps one that is there."""
        if not is_clause(clause, self.most):
            raise NoClause("this is no clause of the solver's things")
        self.held.append(clause)

    def back(self, many=1):
        """Take back the last ones put, so many."""
        if not is_number(many, 1, len(self.held)):
            raise NoNumber("there are not so many clauses to take back")
        del self.held[len(self.held) - many:]

    def ask(self, *, under=()):
        """The least filling that holds all clauses and says all these signs, or rows against it."""
        if not isinstance(under, (tuple, list)) or wrong_sign(under, self.most) is not None:
            raise NoSigns("these are no signs of unlike things of the solver")
        return searched(self.most, self.held, under)

    def clauses(self):
        """The clauses that were put, in that order."""
        return list(self.held)

    def many(self):
        """How many things it has."""
        return self.most
