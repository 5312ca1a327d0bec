"""Layers of clauses, grown beat by beat until they keep themselves or a run harms."""

from keptclauses.copying import copied
from keptclauses.covering import shut_clause, thinned
from keptclauses.papers import are_clauses
from keptclauses.proving import kept_paper
from keptclauses.tables import Table, lowest
from keptclauses.walking import Walk, harming_run
from keptclauses.wishes import wish_sign


def start_clauses(machine):
    """The layer of number 0."""
    return [(sign,) for sign in machine.starts()]


def are_ahead(layers):
    """Whether each clause of a layer of number 2 or more stands in the layer ahead of it, too."""
    for number in range(2, len(layers)):
        ahead = {clause: True for clause in layers[number - 1]}
        if not all([clause in ahead for clause in layers[number]]):
            return False
    return True


def grows(table, layer, ahead):
    """Whether a layer's clauses hold at each beginning and behind each beat from the layer ahead."""
    stands = table.holding_all(ahead)
    return all([table.begins(clause) and not stands & ~table.leading(clause) for clause in layer])


def lets_layers(machine, wish, thing):
    """Whether it is layers as told for a wish of what always holds."""
    sign = wish_sign(machine, wish, "always")
    if not isinstance(thing, list) or not all([are_clauses(machine, layer) for layer in thing]):
        return False
    if thing[:1] != [start_clauses(machine)] or not are_ahead(thing):
        return False
    table = Table(machine)
    bar = table.barring(sign)
    if not all([grows(table, layer, ahead) for ahead, layer in zip(thing, thing[1:])]):
        return False
    return not any([table.holding_all(layer) & ~bar for layer in thing[:-1]])


class Layers:
    """Layers of a machine and a wish, that go one layer deeper at a time until a paper is come to.

    Each clause is kept once, by the last layer that it stands in: it stands in all layers from 1 up to that one.
    """

    def __init__(self, machine, wish):
        self.sign = wish_sign(machine, wish, "always")
        self.made_of = machine
        self.table = Table(machine)
        self.walk = Walk(self.table)
        # Without an aim it goes on to its end: what never is come to is known from the first layer on.
        self.walk.until(0)
        self.bar = self.table.barring(self.sign)
        self.last_layers = {clause: 0 for clause in start_clauses(machine)}
        self.resting = [start_clauses(machine)]
        self.stands_of = [self.table.begun()]
        self.gone = []
        self.told_paper = None

    def __len__(self):
        return len(self.gone)

    def __eq__(self, other):
        return (
            isinstance(other, Layers)
            and self.made_of == other.made_of
            and self.sign == other.sign
            and len(self.gone) == len(other.gone)
        )

    def paper(self):
        """The paper, None where it isn't come to yet."""
        return copied(self.told_paper)

    def layers(self):
        """All layers, that of the starts first."""
        told = []
        layer = []
        for resting in self.resting[:0:-1]:
            layer = resting + layer
            told.append(layer)
        return [start_clauses(self.made_of)] + told[::-1]

    def deeper(self):
        """Go one layer deeper; tell the paper, None where it isn't come to yet."""
        if self.told_paper is None:
            self.gone.append(True)
            self.told_paper = self.cleared()
            if self.told_paper is None:
                self.push()
                self.told_paper = self.kept()
        return self.paper()

    def cleared(self):
        """Put clauses until the last layer bars harm; tell a run as a paper where one is come to."""
        last = len(self.stands_of) - 1
        harmed = self.walk.within(last) & ~self.bar
        if harmed:
            return "run", harming_run(self.table, self.sign, self.walk.way_to(lowest(harmed)))
        while self.stands_of[last] & ~self.bar:
            self.shut_out(last, lowest(self.stands_of[last] & ~self.bar))
        return None

    def shut_out(self, layer, number):
        """Put a clause to a layer that shuts a stand out, and ahead of that what it needs to hold there."""
        todo = [self.chosen(number)]
        while todo:
            here = layer + 1 - len(todo)
            ahead = self.stands_of[here - 1] & self.table.holding(todo[-1]) & ~self.table.leading(todo[-1])
            if ahead:
                # What leads to stands that can't be come to by so many beats can't be by one fewer: so it ends.
                todo.append(self.chosen(lowest(ahead)))
            else:
                self.put(here, todo.pop())

    def chosen(self, number):
        """A clause that shuts a stand out, of few signs, and that can go far through the layers."""
        clause = shut_clause(self.table, number)
        return thinned(self.table, clause, clause, self.walk.kept_from(number, len(self.stands_of) - 1))

    def put(self, number, clause):
        """Put a clause to a layer and to those of lower numbers, but 0."""
        elder = self.last_layers.get(clause, 0)
        if clause in self.resting[elder]:
            self.resting[elder].remove(clause)
        self.resting[number].append(clause)
        self.last_layers[clause] = number
        for layer in range(elder + 1, number + 1):
            self.stands_of[layer] &= self.table.holding(clause)

    def push(self):
        """A new last layer comes, and clauses go to the layer behind theirs where they hold behind each beat."""
        self.stands_of.append(self.table.everywhere)
        self.resting.append([])
        for number in range(len(self.stands_of) - 1):
            stands = self.stands_of[number]
            for clause in list(self.resting[number]):
                if not stands & ~self.table.leading(clause):
                    self.put(number + 1, clause)

    def kept(self):
        """The paper of the first layer all of whose clauses went to the one behind it, None where there is none."""
        for number in range(len(self.resting) - 1):
            if not self.resting[number]:
                return kept_paper(self.made_of, self.sign, self.layers()[number])
        return None
