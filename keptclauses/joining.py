"""Two machines joined by wires: an input with a wire says what a box of the other machine says."""

from keptclauses.errors import NoWires, TooMany
from keptclauses.kinds import is_number
from keptclauses.machines import MOST_BOXES, MOST_GATES, MOST_INPUTS, MOST_PROMISES, Machine
from keptclauses.moving import moved_clauses, moved_gates, moved_signs


def are_wires(wires, machine, boxes):
    """Whether it is a list with, for each input of a machine, one of so many boxes or 0, none for a promised one."""
    if not isinstance(wires, list) or len(wires) != machine.inputs():
        return False
    if not all([is_number(wire, 0, boxes) for wire in wires]):
        return False
    promised = [abs(sign) - machine.boxes() - 1 for promise in machine.promises() for sign in promise]
    return all([wires[place] == 0 for place in promised])


def check_wires(one, other, to_one, to_other):
    """Refuse what are no wires between two machines."""
    if not are_wires(to_one, one, other.boxes()):
        raise NoWires("one")
    if not are_wires(to_other, other, one.boxes()):
        raise NoWires("other")


def check_sizes(boxes, inputs, gates, promises):
    """Refuse what is too much for one machine."""
    for many, most in ((boxes, MOST_BOXES), (inputs, MOST_INPUTS), (gates, MOST_GATES), (promises, MOST_PROMISES)):
        if many > most:
            raise TooMany(many)


def box_numbers(machine, ahead):
    """The new numbers of a machine's boxes, behind so many things."""
    return [ahead + box for box in range(1, machine.boxes() + 1)]


def input_numbers(wires, boxes, ahead):
    """The new numbers of inputs: of a wired one that of its box, of others the next ones behind so many things."""
    told = []
    free = ahead
    for wire in wires:
        if wire == 0:
            free += 1
        told.append(boxes[wire - 1] if wire else free)
    return told


def gate_numbers(machine, ahead):
    """The new numbers of a machine's gates, behind so many things."""
    return [ahead + number for number in range(1, len(machine.gates()) + 1)]


def new_numbers(one, other, to_one, to_other):
    """For either machine a list of the new number of each thing."""
    one_boxes = box_numbers(one, 0)
    other_boxes = box_numbers(other, len(one_boxes))
    boxes = len(one_boxes) + len(other_boxes)
    inputs = to_one.count(0) + to_other.count(0)
    one_inputs = input_numbers(to_one, other_boxes, boxes)
    other_inputs = input_numbers(to_other, one_boxes, boxes + to_one.count(0))
    one_gates = gate_numbers(one, boxes + inputs)
    other_gates = gate_numbers(other, boxes + inputs + len(one_gates))
    return one_boxes + one_inputs + one_gates, other_boxes + other_inputs + other_gates


def joined(one, other, *, to_one, to_other):
    """The machine of both, and for either a list of the new number of each thing."""
    check_wires(one, other, to_one, to_other)
    boxes = one.boxes() + other.boxes()
    inputs = to_one.count(0) + to_other.count(0)
    gates = len(one.gates()) + len(other.gates())
    check_sizes(boxes, inputs, gates, len(one.promises()) + len(other.promises()))
    first, second = new_numbers(one, other, to_one, to_other)
    made = Machine(
        boxes,
        inputs,
        moved_gates(first, one.gates()) + moved_gates(second, other.gates()),
        moved_signs(first, one.nexts()) + moved_signs(second, other.nexts()),
        starts=moved_signs(first, one.starts()) + moved_signs(second, other.starts()),
        promises=moved_clauses(first, one.promises()) + moved_clauses(second, other.promises()),
    )
    return made, first, second
