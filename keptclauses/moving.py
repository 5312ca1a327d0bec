"""Signs, gates and clauses by new numbers; moved is a list with the new number of each thing."""


def moved_sign(moved, sign):
    """A sign of the thing by its new number."""
    number = moved[abs(sign) - 1]
    return number if sign > 0 else -number


def moved_signs(moved, signs):
    """Signs by the new numbers of their things, a list."""
    return [moved_sign(moved, sign) for sign in signs]


def moved_gates(moved, gates):
    """Gates whose signs are by the new numbers."""
    return [(word, moved_sign(moved, one), moved_sign(moved, other)) for word, one, other in gates]


def moved_clauses(moved, clauses):
    """Clauses by the new numbers, which rise as the old ones do."""
    return [tuple(moved_signs(moved, clause)) for clause in clauses]
