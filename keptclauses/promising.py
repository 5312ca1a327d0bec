"""Two machines, each of which keeps its wish as long as the other one keeps its own, and both joined."""

from keptclauses.always import always
from keptclauses.errors import NoMachine, NoPromises, NoWish
from keptclauses.joining import check_wires, joined
from keptclauses.kinds import is_sign
from keptclauses.machines import Machine
from keptclauses.moving import moved_clauses, moved_sign
from keptclauses.proving import kept_paper


def check_box_wishes(one, other, wishes):
    """Refuse what are not two signs, one of a box of either machine."""
    if not isinstance(wishes, tuple) or len(wishes) != 2:
        raise NoWish("there are two wishes")
    for machine, sign in zip((one, other), wishes):
        if not is_sign(sign, machine.boxes()):
            raise NoWish("this is no sign of a box")


def promised(machine, wires, sign):
    """The machine with a promise more for each input that is wired to the box of the other one's wish."""
    ahead = machine.boxes()
    wired = [ahead + place for place, wire in enumerate(wires, start=1) if wire == abs(sign)]
    more = [(thing if sign > 0 else -thing,) for thing in wired]
    try:
        return Machine(
            ahead,
            machine.inputs(),
            machine.gates(),
            machine.nexts(),
            starts=machine.starts(),
            promises=machine.promises() + more,
        )
    except NoMachine as refusal:
        raise NoPromises("these promises can't all hold, or are too many") from refusal


def under_promises(one, other, wishes, *, to_one, to_other):
    """The papers of both machines under the promise of the other's wish, and of the joined one, where both are kept."""
    check_wires(one, other, to_one, to_other)
    check_box_wishes(one, other, wishes)
    first = promised(one, to_one, wishes[1])
    second = promised(other, to_other, wishes[0])
    made, to_first, to_second = joined(one, other, to_one=to_one, to_other=to_other)
    papers = (always(first, ("always", wishes[0])), always(second, ("always", wishes[1])))
    if papers[0][0] == "run" or papers[1][0] == "run":
        return *papers, None
    # Each wish is of a box: so clauses that bar harm to it also keep the promise that is made of it.
    clauses = moved_clauses(to_first, papers[0][1]) + moved_clauses(to_second, papers[1][1])
    signs = (moved_sign(to_first, wishes[0]), moved_sign(to_second, wishes[1]))
    return *papers, (kept_paper(made, signs[0], clauses), kept_paper(made, signs[1], clauses))
