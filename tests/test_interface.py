"""The interface: names, arguments, defaults, and methods that stand in the class itself."""

import inspect
import unittest

from keptclauses import (
    again, always, answers, beats, clauses, desk, failing, house, joining, layers, lean, machines, papers, promising, ranks,
    rows, runs, solver, still, texts, watching, wishes,
)

FUNCTIONS = {
    clauses.is_clause: "(thing, many=60)",
    clauses.clause_of: "(signs)",
    clauses.holds: "(clause, filling)",
    clauses.within: "(one, other)",
    clauses.met: "(one, other, thing)",
    rows.row_clauses: "(clauses, rows)",
    rows.lets_rows: "(clauses, rows, *, end=())",
    solver.Solver: "(many)",
    machines.Machine: "(boxes, inputs, gates, nexts, *, starts=(), promises=())",
    runs.is_run: "(machine, thing)",
    runs.stands: "(machine, run)",
    runs.fillings: "(machine, run)",
    runs.wave: "(machine, run)",
    runs.told_on: "(machine, run, words)",
    runs.cut: "(machine, run, beats)",
    wishes.is_wish: "(machine, thing)",
    wishes.harms: "(machine, wish, thing)",
    beats.beat_clauses: "(machine)",
    beats.things_of: "(machine)",
    beats.clause_behind: "(machine, clause)",
    beats.signs_of: "(stand)",
    failing.fails: "(machine, wish, clauses)",
    papers.lets_paper: "(machine, wish, thing)",
    layers.lets_layers: "(machine, wish, thing)",
    layers.Layers: "(machine, wish)",
    lean.lean: "(machine, wish, clauses)",
    lean.why_lean: "(machine, wish, clauses)",
    always.always: "(machine, wish, *, first=())",
    ranks.lets_again: "(machine, wish, thing)",
    again.again: "(machine, wish)",
    watching.watched: "(machine, one, other)",
    answers.answer: "(machine, wish)",
    answers.lets_answer: "(machine, wish, thing)",
    still.still: "(machine, clauses)",
    house.House: "(machine)",
    joining.joined: "(one, other, *, to_one, to_other)",
    promising.under_promises: "(one, other, wishes, *, to_one, to_other)",
    texts.shown: "(machine)",
    texts.read: "(text)",
    desk.Desk: "()",
}
METHODS = {
    solver.Solver: {
        "put": "(self, clause)", "back": "(self, many=1)", "ask": "(self, *, under=())", "clauses": "(self)",
        "many": "(self)",
    },
    machines.Machine: {
        "boxes": "(self)", "inputs": "(self)", "gates": "(self)", "nexts": "(self)", "starts": "(self)",
        "promises": "(self)", "filling": "(self, stand, word)", "behind": "(self, stand, word)",
        "beginnings": "(self)", "words": "(self)", "is_word": "(self, thing)",
    },
    layers.Layers: {"deeper": "(self)", "paper": "(self)", "layers": "(self)"},
    house.House: {
        "wish": "(self, name, wish)", "drop": "(self, name)", "gate": "(self, number, gate)", "next": "(self, box, sign)",
        "starts": "(self, signs)", "together": "(self, deeds)", "back": "(self, *, many=1)", "machine": "(self)",
        "wishes": "(self)", "paper": "(self, name)", "used": "(self, name)", "words": "(self)", "twin": "(self)",
    },
    desk.Desk: {"say": "(self, row)"},
}


def arguments(function):
    """The arguments as they are handed in, without what may be written beside them."""
    told = inspect.signature(function)
    bare = [one.replace(annotation=one.empty) for one in told.parameters.values()]
    return str(told.replace(parameters=bare, return_annotation=told.empty))


class TestInterface(unittest.TestCase):
    def test_functions_and_classes(self):
        for function, due in FUNCTIONS.items():
            self.assertEqual(arguments(function), due, function)

    def test_methods_stand_in_the_class_itself(self):
        for owner, methods in METHODS.items():
            # Of a desk neither its len nor what it is like is told.
            for name in ("__len__", "__eq__") if owner is not desk.Desk else ():
                self.assertIn(name, vars(owner))
            for name, due in methods.items():
                self.assertIn(name, vars(owner))
                self.assertEqual(arguments(vars(owner)[name]), due, name)


if __name__ == "__main__":
    unittest.main()
