"""A beat's clauses: what holds of a machine's things and of its boxes behind the beat."""

from keptclauses.clauses import clause_of


def and_clauses(gate, one, other):
    return [(-gate, one), (-gate, other), (gate, -one, -other)]


def or_clauses(gate, one, other):
    return [(gate, -one), (gate, -other), (-gate, one, other)]


def odd_clauses(gate, one, other):
    return [(-gate, one, other), (-gate, -one, -other), (gate, -one, other), (gate, one, -other)]


GATE_CLAUSES = {"and": and_clauses, "or": or_clauses, "odd": odd_clauses}


def things_of(machine):
    """How many things a beat has: the machine's, and the boxes behind it."""
    return len(machine) + machine.boxes()


def beat_clauses(machine):
    """The clauses of a beat: of the gates, of the boxes behind it, and the promises."""
    told = []
    for number, (word, one, other) in enumerate(machine.gates()):
        written = GATE_CLAUSES[word]
        told.extend(written(machine.boxes() + machine.inputs() + number + 1, one, other))
    for box, sign in enumerate(machine.nexts(), start=1):
        behind = len(machine) + box
        told.extend([(-behind, sign), (behind, -sign)])
    told.extend(machine.promises())
    made = [clause_of(signs) for signs in told]
    return [clause for clause in made if clause is not None]


def clause_behind(machine, clause):
    """A clause of boxes as it is behind the beat."""
    many = len(machine)
    return tuple([sign + many if sign > 0 else sign - many for sign in clause])


def signs_of(stand):
    """A stand as signs, box by box."""
    return [box if truth else -box for box, truth in enumerate(stand, start=1)]
