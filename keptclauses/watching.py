"""Watched machines: a box more tells whether something is due, so that what must come behind must come again."""

from keptclauses.errors import TooMany
from keptclauses.machines import MOST_BOXES, MOST_GATES, Machine
from keptclauses.moving import moved_clauses, moved_gates, moved_sign, moved_signs


def check_room(machine):
    """Refuse a machine that has no room for a box and two gates more."""
    if machine.boxes() > MOST_BOXES - 1:
        raise TooMany(machine.boxes())
    gates = len(machine.gates())
    if gates > MOST_GATES - 2:
        raise TooMany(gates)


def watched(machine, one, other):
    """The machine with a box in which other is due behind one, the sign that must come again, and the new numbers."""
    check_room(machine)
    due = machine.boxes() + 1
    moved = [thing if thing < due else thing + 1 for thing in range(1, len(machine) + 1)]
    # With the box there is one thing more: so the first of the two new gates is the second thing behind the elder ones.
    either = len(machine) + 2
    stays = either + 1
    gates = moved_gates(moved, machine.gates())
    gates += [("or", due, moved_sign(moved, one)), ("and", either, -moved_sign(moved, other))]
    made = Machine(
        due,
        machine.inputs(),
        gates,
        moved_signs(moved, machine.nexts()) + [stays],
        starts=machine.starts() + [-due],
        promises=moved_clauses(moved, machine.promises()),
    )
    return made, -due, moved
