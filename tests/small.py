"""Small machines, and all that can be told of them by going through their stands and words without the program."""

import random

from keptclauses.errors import NoMachine
from keptclauses.machines import Machine
from keptclauses.solver import Solver
from tests.tools import all_fillings, holds_by, says


def random_machine(chance, boxes, inputs, gates, *, starts=None, promises=0):
    """A machine of that size; starts are so many signs, or any number of them."""
    many = boxes + inputs + gates

    def sign(most):
        return chance.choice((1, -1)) * chance.randint(1, most)

    made = [(chance.choice(("and", "or", "odd")), sign(boxes + inputs + k), sign(boxes + inputs + k)) for k in range(gates)]
    nexts = [sign(many) for box in range(boxes)]
    begun = chance.sample(range(1, boxes + 1), chance.randint(0, boxes) if starts is None else starts)
    while True:
        told = []
        for number in range(promises if inputs else 0):
            things = chance.sample(range(boxes + 1, boxes + inputs + 1), chance.randint(1, inputs))
            told.append(tuple(chance.choice((1, -1)) * thing for thing in sorted(things)))
        try:
            return Machine(boxes, inputs, made, nexts, starts=[chance.choice((1, -1)) * box for box in begun], promises=told)
        except NoMachine:
            continue


def small_machines(seed, many, *, most_boxes=3):
    """So many small machines, each time the same ones."""
    chance = random.Random(seed)
    told = []
    for number in range(many):
        boxes = chance.randint(1, most_boxes)
        inputs = chance.randint(0, 2)
        told.append(random_machine(chance, boxes, inputs, chance.randint(0, 5), promises=chance.choice((0, 0, 1, 2))))
    return told


def counter(bits):
    """A machine that counts, box 1 the lowest figure, and the sign that all boxes are."""
    gates, nexts, full = [], [-1], 1
    for box in range(2, bits + 1):
        gates += [("odd", full, box), ("and", full, box)]
        nexts.append(bits + len(gates) - 1)
        full = bits + len(gates)
    return Machine(bits, 0, gates, nexts, starts=[-box for box in range(1, bits + 1)]), full


def even(boxes):
    """Boxes that go round, an input turns two of them about; the sign that an even number of them is, which stays so."""
    top = boxes + 1
    gates = [("odd", boxes, top), ("odd", 1, top)]
    nexts = [top + 1, top + 2, *range(2, boxes)]
    odd = 1
    for box in range(2, boxes + 1):
        gates.append(("odd", odd, box))
        odd = top + len(gates)
    return Machine(boxes, 1, gates, nexts, starts=[-box for box in range(1, boxes + 1)]), -odd


class Walked:
    """All stands and words of a machine, reckoned from what it is made of."""

    def __init__(self, machine):
        self.machine = machine
        self.stands = all_fillings(machine.boxes())
        self.words = []
        for word in all_fillings(machine.inputs()):
            filling = (False,) * machine.boxes() + word
            if all(holds_by(promise, filling) for promise in machine.promises()):
                self.words.append(word)
        self.beginnings = [stand for stand in self.stands if all(says(stand, sign) for sign in machine.starts())]
        self.fillings = {(stand, word): self.reckoned(stand, word) for stand in self.stands for word in self.words}

    def reckoned(self, stand, word):
        told = list(stand) + list(word)
        for name, one, other in self.machine.gates():
            yes = [says(told, one), says(told, other)].count(True)
            told.append({"and": yes == 2, "or": yes >= 1, "odd": yes == 1}[name])
        return tuple(told)

    def behind(self, stand, word):
        return tuple(says(self.fillings[stand, word], sign) for sign in self.machine.nexts())

    def says(self, stand, word, sign):
        return says(self.fillings[stand, word], sign)

    def come_to(self):
        """For each stand that is come to, the least number of beats."""
        told = {stand: 0 for stand in self.beginnings}
        todo = list(self.beginnings)
        for stand in todo:
            for word in self.words:
                end = self.behind(stand, word)
                if end not in told:
                    told[end] = told[stand] + 1
                    todo.append(end)
        return told

    def harm(self, sign):
        """The least number of beats of a run that harms ("always", sign), None where there is none."""
        told = self.come_to()
        beats = [told[stand] + 1 for stand in told for word in self.words if not self.says(stand, word, sign)]
        return min(beats, default=None)

    def held(self, clauses):
        return [stand for stand in self.stands if all(holds_by(clause, stand) for clause in clauses)]

    def fails(self, sign, clauses):
        """What fails first of clauses."""
        for number, clause in enumerate(clauses):
            for stand in self.beginnings:
                if not holds_by(clause, stand):
                    return "begin", number, stand
        for number, clause in enumerate(clauses):
            for stand in self.held(clauses):
                for word in self.words:
                    if not holds_by(clause, self.behind(stand, word)):
                        return "beat", number, stand, word
        for stand in self.held(clauses):
            for word in self.words:
                if not self.says(stand, word, sign):
                    return "bar", stand, word
        return None

    def lacks(self, sign, stands):
        """How many beats in a row, at most, lack the sign from one of these stands; None where they never end."""
        now, seen = frozenset(stands), set()
        while now:
            if now in seen:
                return None
            seen.add(now)
            now = frozenset(
                self.behind(stand, word) for stand in now for word in self.words if not self.says(stand, word, sign))
        return len(seen) - 1


def beat_list(machine):
    """A beat's clauses, told by hand, in the order of the document."""
    told = []
    gate = machine.boxes() + machine.inputs()
    for word, a, b in machine.gates():
        gate += 1
        g = gate
        told += {
            "and": [(-g, a), (-g, b), (g, -a, -b)],
            "or": [(g, -a), (g, -b), (-g, a, b)],
            "odd": [(-g, a, b), (-g, -a, -b), (g, -a, b), (g, a, -b)],
        }[word]
    for box, s in enumerate(machine.nexts(), start=1):
        told += [(-(gate + box), s), (gate + box, -s)]
    told += machine.promises()
    whole = [set(signs) for signs in told]
    return [tuple(sorted(signs, key=abs)) for signs in whole if not any(-sign in signs for sign in signs)]


def behind(machine, clause):
    many = machine.boxes() + machine.inputs() + len(machine.gates())
    return tuple(sign + many if sign > 0 else sign - many for sign in clause)


def solver_rows(machine, clauses, end):
    """Rows for a list of clauses, written by a Solver, that lead to end; None where it doesn't follow."""
    solver = Solver(len(machine) + machine.boxes())
    for clause in clauses:
        solver.put(clause)
    answer = solver.ask(under=[-sign for sign in end])
    return answer[2] if answer[0] == "no" else None


def solver_paper(machine, sign, clauses):
    """A paper of kept clauses whose rows a Solver writes; where one doesn't follow None stands in their stead."""
    given = clauses + beat_list(machine)
    beats = [solver_rows(machine, given, behind(machine, clause)) for clause in clauses]
    return "kept", list(clauses), beats, solver_rows(machine, given, (sign,))


def all_signs(machine):
    return [sign for thing in range(1, len(machine) + 1) for sign in (thing, -thing)]
