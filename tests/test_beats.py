"""Promise 11: a beat's clauses."""

import unittest

from keptclauses.beats import beat_clauses, clause_behind, signs_of, things_of
from keptclauses.machines import Machine
from tests.small import Walked, beat_list, behind, small_machines
from tests.tools import all_clauses, all_fillings, holds_by


def one_gate(word, one, other, **more):
    """Two boxes, an input (thing 3), a gate (4); the boxes behind the beat are 5 and 6."""
    return Machine(2, 1, [(word, one, other)], [4, -3], **more)


NEXTS = [(4, -5), (-4, 5), (-3, -6), (3, 6)]


class TestOrder(unittest.TestCase):
    def test_gates_of_each_word(self):
        for word, clauses in [
            ("and", [(1, -4), (-3, -4), (-1, 3, 4)]),
            ("or", [(-1, 4), (3, 4), (1, -3, -4)]),
            ("odd", [(1, -3, -4), (-1, 3, -4), (-1, -3, 4), (1, 3, 4)]),
        ]:
            self.assertEqual(beat_clauses(one_gate(word, 1, -3)), clauses + NEXTS, word)

    def test_signs_the_other_way_about(self):
        for word, clauses in [
            ("and", [(-3, -4), (1, -4), (-1, 3, 4)]),
            ("or", [(3, 4), (-1, 4), (1, -3, -4)]),
            ("odd", [(1, -3, -4), (-1, 3, -4), (1, 3, 4), (-1, -3, 4)]),
        ]:
            self.assertEqual(beat_clauses(one_gate(word, -3, 1)), clauses + NEXTS, word)

    def test_equal_signs(self):
        for word, clauses in [
            ("and", [(2, -4), (2, -4), (-2, 4)]),
            ("or", [(-2, 4), (-2, 4), (2, -4)]),
            ("odd", [(2, -4), (-2, -4)]),
        ]:
            self.assertEqual(beat_clauses(one_gate(word, 2, 2)), clauses + NEXTS, word)

    def test_a_sign_and_the_same_turned_about(self):
        for word, clauses in [
            ("and", [(2, -4), (-2, -4)]),
            ("or", [(-2, 4), (2, 4)]),
            ("odd", [(-2, 4), (2, 4)]),
        ]:
            self.assertEqual(beat_clauses(one_gate(word, 2, -2)), clauses + NEXTS, word)

    def test_nexts_of_boxes_inputs_and_gates(self):
        machine = Machine(4, 1, [("and", 1, 5)], [1, -2, 5, -6])
        self.assertEqual(beat_clauses(machine)[3:], [
            (1, -7), (-1, 7), (-2, -8), (2, 8), (5, -9), (-5, 9), (-6, -10), (6, 10),
        ])

    def test_promises_behind(self):
        machine = Machine(1, 2, [], [2], promises=[(2, -3), (-2,), (2, -3)])
        self.assertEqual(beat_clauses(machine), [(2, -4), (-2, 4), (2, -3), (-2,), (2, -3)])
        machine = one_gate("and", 1, -3, promises=((3,),))
        self.assertEqual(beat_clauses(machine), [(1, -4), (-3, -4), (-1, 3, 4), *NEXTS, (3,)])

    def test_several_gates_one_behind_the_other(self):
        machine = Machine(1, 0, [("or", 1, 1), ("and", -2, 1), ("odd", 3, -2)], [4])
        self.assertEqual(beat_clauses(machine), [
            (-1, 2), (-1, 2), (1, -2), (-2, -3), (1, -3), (-1, 2, 3), (-2, 3, -4), (2, -3, -4), (-2, -3, 4), (2, 3, 4),
            (4, -5), (-4, 5),
        ])

    def test_by_hand(self):
        for machine in small_machines(11, 300):
            self.assertEqual(beat_clauses(machine), beat_list(machine))

    def test_the_largest_machine(self):
        gates = [("odd", 14 + k, -(13 + k)) for k in range(24)]
        machine = Machine(10, 4, gates, list(range(29, 39)), promises=[(11, 12)] * 8)
        self.assertEqual(things_of(machine), 48)
        self.assertEqual(len(beat_clauses(machine)), 24 * 4 + 20 + 8)


class TestMeaning(unittest.TestCase):
    def test_by_all_fillings(self):
        for machine in small_machines(12, 40, most_boxes=2):
            walked = Walked(machine)
            clauses = beat_clauses(machine)
            due = {walked.fillings[stand, word] + walked.behind(stand, word)
                   for stand in walked.stands for word in walked.words}
            told = {filling for filling in all_fillings(things_of(machine))
                    if all(holds_by(clause, filling) for clause in clauses)}
            self.assertEqual(told, due)


class TestBesides(unittest.TestCase):
    def test_things_of(self):
        for machine in small_machines(13, 50):
            told = things_of(machine)
            self.assertEqual(told, machine.boxes() * 2 + machine.inputs() + len(machine.gates()))
            self.assertIs(type(told), int)

    def test_clause_behind(self):
        machine = one_gate("and", 1, 2)
        for clause, due in [((), ()), ((1,), (5,)), ((-1,), (-5,)), ((-1, 2), (-5, 6)), ((1, -2), (5, -6))]:
            self.assertEqual(clause_behind(machine, clause), due)
        for machine in small_machines(14, 30):
            for clause in all_clauses(machine.boxes()):
                self.assertEqual(clause_behind(machine, clause), behind(machine, clause))
                self.assertIs(type(clause_behind(machine, clause)), tuple)

    def test_signs_of(self):
        self.assertEqual(signs_of((True, False, True)), [1, -2, 3])
        self.assertEqual(signs_of((False,)), [-1])
        self.assertEqual(signs_of((False,) * 10), [-box for box in range(1, 11)])
        self.assertEqual(signs_of(()), [])
        self.assertIs(type(signs_of((True,))), list)

    def test_told_lists_are_the_askers_own(self):
        machine = one_gate("and", 1, -3)
        due = beat_clauses(machine)
        told = beat_clauses(machine)
        told.clear()
        self.assertEqual(beat_clauses(machine), due)
        self.assertEqual(machine.gates(), [("and", 1, -3)])
        stand = (True, False)
        signs = signs_of(stand)
        signs.append(3)
        self.assertEqual(signs_of(stand), [1, -2])

    def test_by_name(self):
        machine = one_gate("and", 1, -3)
        self.assertEqual(beat_clauses(machine=machine), beat_clauses(machine))
        self.assertEqual(things_of(machine=machine), 6)
        self.assertEqual(clause_behind(clause=(1,), machine=machine), (5,))
        self.assertEqual(signs_of(stand=(True,)), [1])


if __name__ == "__main__":
    unittest.main()
