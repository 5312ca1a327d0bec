"""Promises 7 and 8: machines, what is refused of them, and their beats."""

import random
import unittest

from keptclauses.errors import KeptError, NoMachine, NoStand, NoWord
from keptclauses.machines import MOST_BOXES, MOST_GATES, MOST_INPUTS, Machine
from tests.tools import NO_NUMBERS, STRANGE, Odd, all_fillings, holds_by, says

# Two boxes (1, 2), two inputs (3, 4), three gates (5, 6, 7).
GATES = [("and", 1, -3), ("or", -2, 4), ("odd", 5, -6)]
NEXTS = [7, -1]


def example(**changed):
    parts = {"boxes": 2, "inputs": 2, "gates": list(GATES), "nexts": list(NEXTS), **changed}
    return Machine(**parts)


def reckoned(boxes, inputs, gates, stand, word):
    """The filling of all things, reckoned without the program."""
    told = list(stand) + list(word)
    for name, one, other in gates:
        yes = [says(told, one), says(told, other)].count(True)
        told.append({"and": yes == 2, "or": yes >= 1, "odd": yes == 1}[name])
    return tuple(told)


class MachineCase(unittest.TestCase):
    def refused(self, part, number, **changed):
        with self.assertRaises(NoMachine) as caught:
            example(**changed)
        self.assertIsInstance(caught.exception, KeptError)
        self.assertEqual((caught.exception.part, caught.exception.number), (part, number), changed)
        self.assertNotIsInstance(caught.exception.number, bool)


class TestBounds(MachineCase):
    def test_the_bounds_are_told(self):
        self.assertEqual((MOST_BOXES, MOST_INPUTS, MOST_GATES), (10, 4, 24))

    def test_a_machine_at_its_bounds(self):
        gates = [("and", 14 + k, -(13 + k)) for k in range(24)]
        machine = Machine(10, 4, gates, [38, -38, 1, -10, 11, -14, 15, -15, 37, 38], starts=list(range(1, 11)),
                          promises=[(11, 12), (-11,), (13, -14), (-13, 14), (11, 12, 13, 14), (12,), (12,), (-11, -14)])
        self.assertEqual(len(machine), 38)
        self.assertEqual(len(machine.promises()), 8)
        self.assertEqual(machine.gates(), gates)

    def test_a_machine_that_is_as_small_as_can_be(self):
        machine = Machine(1, 0, [], [-1])
        self.assertEqual(len(machine), 1)
        self.assertEqual((machine.boxes(), machine.inputs(), machine.gates(), machine.nexts()), (1, 0, [], [-1]))
        self.assertEqual((machine.starts(), machine.promises(), machine.words()), ([], [], [()]))
        self.assertEqual(machine.behind((False,), ()), (True,))

    def test_each_number_of_boxes_and_inputs(self):
        for boxes in range(1, 11):
            for inputs in range(5):
                machine = Machine(boxes, inputs, [], list(range(1, boxes + 1)))
                self.assertEqual((machine.boxes(), machine.inputs(), len(machine)), (boxes, inputs, boxes + inputs))

    def test_one_beyond(self):
        self.refused("boxes", None, boxes=11, nexts=[1] * 11)
        self.refused("boxes", None, boxes=0, nexts=[])
        self.refused("inputs", None, inputs=5)
        self.refused("inputs", None, inputs=-1)
        self.refused("gates", None, gates=[("and", 1, 2)] * 25)
        self.refused("promises", None, promises=[(3,)] * 9)
        self.refused("promises", None, promises=((3,),) * 9)
        example(gates=[("and", 1, 2)] * 24)
        example(promises=[(3,)] * 8)
        example(promises=((3,),) * 8)


class TestNoMachine(MachineCase):
    def test_boxes_and_inputs_of_any_kind(self):
        for thing in [*NO_NUMBERS, -1, 11, 12, 10 ** 40, -10 ** 40]:
            self.refused("boxes", None, boxes=thing)
            self.refused("inputs", None, inputs=thing)

    def test_gates_that_are_no_list(self):
        for thing in [*STRANGE, (), tuple(GATES), 0, 1, True, False, {0: GATES[0]}]:
            if not isinstance(thing, list):
                self.refused("gates", None, gates=thing)

    def test_gates_that_are_none(self):
        wrong = [
            ("nand", 1, 2), ("And", 1, 2), ("AND", 1, 2), ("", 1, 2), ("xor", 1, 2), ("not", 1, 2), (None, 1, 2),
            (0, 1, 2), (b"and", 1, 2), (["and"], 1, 2), (("and",), 1, 2), ({}, 1, 2), (Odd(), 1, 2), (True, 1, 2),
            ("and",), ("and", 1), ("and", 1, 2, 3), (), ["and", 1, 2], "and", ("and", (1, 2)), [("and", 1, 2)],
            ("and", 0, 1), ("and", 1, 0), ("and", True, 1), ("and", 1, True), ("and", False, 1), ("or", 1, False),
            ("odd", "1", 1), ("odd", 1, "1"), ("and", None, 1), ("and", 1, None), ("or", [1], 1), ("or", 1, [1]),
            ("and", 1, (1,)), ("and", 10 ** 40, 1), ("and", 1, -10 ** 40), ("and ", 1, 2), *STRANGE,
        ]
        for gate in wrong:
            self.refused("gates", 0, gates=[gate, *GATES])
            self.refused("gates", 3, gates=[*GATES, gate])
            self.refused("gates", 1, gates=[GATES[0], gate, gate])

    def test_signs_at_or_behind_their_own_gate(self):
        for number in range(4):
            ahead = [("or", 1, 2)] * number
            own = 5 + number
            for sign in (own, -own, own + 1, -own - 1, 60):
                self.refused("gates", number, gates=[*ahead, ("and", sign, 1), ("or", 1, 2)])
                self.refused("gates", number, gates=[*ahead, ("odd", 1, sign), ("or", 1, 2)])
            for sign in (own - 1, 1 - own, 1, -4):
                example(gates=[*ahead, ("and", sign, -sign)], nexts=[1, 2])

    def test_nexts_too_many_or_too_few_or_no_list(self):
        for thing in [[], [1], [1, 2, 3], [None], [None, None, None], (), (1, 2), tuple(NEXTS)]:
            self.refused("nexts", None, nexts=thing)
        for thing in [*STRANGE, 0, 1, True, False, {1: 2}]:
            if not isinstance(thing, list):
                self.refused("nexts", None, nexts=thing)

    def test_nexts_of_no_thing(self):
        for sign in [*NO_NUMBERS, 0, 8, -8, 60, 61, 10 ** 40]:
            self.refused("nexts", 0, nexts=[sign, 1])
            self.refused("nexts", 1, nexts=[1, sign])
            self.refused("nexts", 0, nexts=[sign, sign])
        for sign in (1, 2, 3, 4, 5, 6, 7):
            example(nexts=[sign, -sign])

    def test_starts_that_are_neither_tuple_nor_list(self):
        for thing in [*STRANGE, 0, 1, True, False, {1: 1}, {1}, range(1, 2)]:
            if not isinstance(thing, (tuple, list)):
                self.refused("starts", None, starts=thing)

    def test_starts_of_no_box(self):
        for sign in [*NO_NUMBERS, 0, 3, -3, 4, 7, 60, 61]:
            for starts in ([sign], (sign,), [sign, sign], (sign, 1)):
                self.refused("starts", 0, starts=starts)
            for starts in ([-2, sign], (2, sign), [1, sign, sign]):
                self.refused("starts", 1, starts=starts)

    def test_starts_with_a_box_twice(self):
        for starts, number in [([1, 1], 1), ([1, -1], 1), ([-1, 1], 1), ([2, 1, 2], 2), ((1, 2, -1), 2), ([1, 2, 2, 1], 2)]:
            self.refused("starts", number, starts=starts)
            self.refused("starts", number, starts=tuple(starts))
        self.refused("starts", 2, starts=[1, -2] * 50)
        self.refused("starts", 1, starts=[2] * 100)
        self.refused("starts", 1, starts=[1, 1, None])
        self.refused("starts", 1, starts=[1, None, 1])

    def test_promises_that_are_neither_tuple_nor_list(self):
        for thing in [*STRANGE, 0, 1, True, False, {1: 1}, {1}, {(3,)}, range(1, 2)]:
            if not isinstance(thing, (tuple, list)):
                self.refused("promises", None, promises=thing)

    def test_promises_that_are_no_clauses_of_inputs(self):
        wrong = [
            (1,), (2,), (-2,), (5,), (-7,), (1, 3), (2, 4), (3, 5), (3, 3), (3, -3), (4, 3), (0,), (61,), [3], [],
            (True,), (False,), ("3",), ([3],), ((3,),), (None,), (3, None), 3, True, None, "3", *STRANGE,
        ]
        for promise in wrong:
            for starts in (list, tuple):
                self.refused("promises", 0, promises=starts([promise, (3,)]))
                self.refused("promises", 1, promises=starts([(3, 4), promise, promise]))
                self.refused("promises", 7, promises=starts([(3,)] * 7 + [promise]))

    def test_promises_that_can_not_all_hold(self):
        for promises in [[()], ((),), [(3,), (-3,)], [(3, 4), (-3,), (-4,)], [(3,), (4,), ()],
                         [(3, 4), (3, -4), (-3, 4), (-3, -4)]]:
            self.refused("promises", None, promises=promises)
            self.refused("promises", None, promises=tuple(promises))
        self.refused("promises", None, inputs=0, gates=[], nexts=[1, 2], promises=[()])
        self.refused("promises", 0, inputs=0, gates=[], nexts=[1, 2], promises=[(3,)])

    def test_themselves_not_so_whatever_stands_in_them(self):
        self.refused("gates", None, gates=[None] * 25)
        self.refused("gates", None, gates=[("and", 0, 0)] + [("and", 1, 2)] * 24)
        self.refused("nexts", None, nexts=[None] * 3)
        self.refused("nexts", None, nexts=[0])
        self.refused("promises", None, promises=[None] * 9)
        self.refused("promises", None, promises=((1,),) + ((3,),) * 8)

    def test_the_first_part_that_is_not_so(self):
        wrong = {
            "boxes": 0, "inputs": 5, "gates": [("and", 1, 0)], "nexts": [1, 0], "starts": [0], "promises": [(0,)],
        }
        numbers = {"boxes": None, "inputs": None, "gates": 0, "nexts": 1, "starts": 0, "promises": 0}
        parts = list(wrong)
        for first, part in enumerate(parts):
            self.refused(part, numbers[part], **{later: wrong[later] for later in parts[first:]})
            for later in parts[first:]:
                self.refused(part, numbers[part], **{part: wrong[part], later: wrong[later]})

    def test_a_part_itself_not_so_goes_behind_a_part_ahead(self):
        self.refused("gates", 0, gates=[None], nexts=None, starts=None, promises=None)
        self.refused("nexts", 0, nexts=[0, 1], starts=None, promises=None)
        self.refused("starts", 0, starts=[None], promises=None)
        self.refused("nexts", None, nexts=None, starts=[0], promises=[()])

    def test_starts_and_promises_are_handed_in_by_their_names_alone(self):
        with self.assertRaises(TypeError):
            Machine(1, 0, [], [1], [1])
        with self.assertRaises(TypeError):
            Machine(1, 0, [], [1], [1], [])


class TestBeats(MachineCase):
    def test_each_gate_by_hand(self):
        rows = {
            "and": [False, False, False, True],
            "or": [False, True, True, True],
            "odd": [False, True, True, False],
        }
        stands = [(False, False), (False, True), (True, False), (True, True)]
        for name, due in rows.items():
            machine = Machine(2, 0, [(name, 1, 2), (name, -1, 2), (name, 1, -2), (name, -1, -2)], [3, -6])
            for number, stand in enumerate(stands):
                turned = [due[number], due[number ^ 2], due[number ^ 1], due[number ^ 3]]
                self.assertEqual(machine.filling(stand, ()), (*stand, *turned))
                self.assertEqual(machine.behind(stand, ()), (turned[0], not turned[3]))

    def test_a_gate_of_one_thing_twice(self):
        machine = Machine(1, 0, [("and", 1, 1), ("or", 1, -1), ("odd", 1, 1), ("and", 1, -1), ("odd", 1, -1)], [1])
        self.assertEqual(machine.filling((True,), ()), (True, True, True, False, False, True))
        self.assertEqual(machine.filling((False,), ()), (False, False, True, False, False, True))

    def test_all_stands_and_words_of_the_example(self):
        machine = example()
        for stand in all_fillings(2):
            for word in all_fillings(2):
                box1, box2 = stand
                in1, in2 = word
                first = box1 and not in1
                second = in2 or not box2
                third = first != (not second)
                self.assertEqual(machine.filling(stand, word), (box1, box2, in1, in2, first, second, third))
                self.assertEqual(machine.behind(stand, word), (third, not box1))

    def test_small_machines_of_any_make(self):
        chance = random.Random(2)
        for time in range(150):
            boxes, inputs, many = chance.randint(1, 3), chance.randint(0, 2), chance.randint(0, 6)
            gates = []
            for number in range(many):
                ahead = range(1, boxes + inputs + number + 1)
                signs = [chance.choice(ahead) * chance.choice((1, -1)) for k in range(2)]
                gates.append((chance.choice(("and", "or", "odd")), *signs))
            things = range(1, boxes + inputs + many + 1)
            nexts = [chance.choice(things) * chance.choice((1, -1)) for box in range(boxes)]
            machine = Machine(boxes, inputs, gates, nexts)
            self.assertEqual(len(machine), boxes + inputs + many)
            for stand in all_fillings(boxes):
                for word in all_fillings(inputs):
                    due = reckoned(boxes, inputs, gates, stand, word)
                    told = machine.filling(stand, word)
                    self.assertEqual(told, due)
                    self.assertIsInstance(told, tuple)
                    self.assertTrue(all(truth is True or truth is False for truth in told))
                    behind = machine.behind(stand, word)
                    self.assertEqual(behind, tuple(says(due, sign) for sign in nexts))
                    self.assertIsInstance(behind, tuple)
                    self.assertTrue(all(truth is True or truth is False for truth in behind))

    def test_nexts_of_boxes_inputs_and_gates(self):
        machine = Machine(4, 1, [("or", 1, 5)], [2, -5, 6, -1])
        self.assertEqual(machine.behind((True, True, False, False), (False,)), (True, True, True, False))
        self.assertEqual(machine.behind((False, False, True, True), (True,)), (False, False, True, True))
        self.assertEqual(machine.behind(word=(False,), stand=(False, True, True, False)), (True, True, False, True))


class TestStandsAndWords(MachineCase):
    def test_beginnings_say_all_starts_and_are_sorted(self):
        for starts in [(), [], (1,), [-1], (-3, 1), [2, -1, 3], (3, 2, 1), [-2]]:
            machine = Machine(3, 0, [], [1, 2, 3], starts=starts)
            due = [stand for stand in all_fillings(3) if all(says(stand, sign) for sign in starts)]
            self.assertEqual(machine.beginnings(), due)
            self.assertEqual(machine.starts(), list(starts))
        self.assertEqual(len(Machine(10, 0, [], [1] * 10).beginnings()), 1024)
        self.assertEqual(Machine(2, 0, [], [1, 2], starts=[2]).beginnings(), [(False, True), (True, True)])

    def test_words_hold_all_promises_and_are_sorted(self):
        for promises in [[], [(3,)], [(-4,)], [(3, 4)], [(-3, 4)], [(3, 4), (-3, -4)], ((3,), (-4,)), [(3,), (3,)]]:
            machine = example(promises=promises)
            due = [word for word in all_fillings(2)
                   if all(holds_by(promise, (None, None) + word) for promise in promises)]
            self.assertEqual(machine.words(), due)
            self.assertEqual(machine.promises(), list(promises))
            for word in all_fillings(2):
                self.assertIs(machine.is_word(word), word in due)
        self.assertEqual(Machine(1, 4, [], [1]).words(), all_fillings(4))
        self.assertEqual(example(promises=[(-3, 4)]).words(), [(False, False), (False, True), (True, True)])

    def test_is_word_of_anything(self):
        machine = example(promises=[(3, 4)])
        for thing in [*STRANGE, 0, 1, True, False, (), (True,), (True, True, True), [True, True], (1, 1), (0, 1),
                      (True, 1), (1, True), (True, None), (None, True), ("1", "1"), (True, "True"), ((True,), (True,)),
                      (False, False), ([True], True), {True: True}]:
            self.assertIs(machine.is_word(thing), False, thing)
        self.assertIs(machine.is_word(thing=(True, False)), True)
        without = Machine(1, 0, [], [1])
        self.assertIs(without.is_word(()), True)
        for thing in [*STRANGE, 0, 1, True, False, [], (True,), (False,)]:
            self.assertIs(without.is_word(thing), False, thing)

    def test_no_stand(self):
        machine = example(promises=[(3, 4)])
        for stand in [*STRANGE, 0, 1, True, (), (True,), (True, True, True), [True, True], (1, 0), (True, 0), (0, True),
                      (None, True), ("1", "0"), (True, "no"), ((True, True),), ([True], True)]:
            for word in [(True, True), (False, False), None, (True,), stand]:
                for ask in (machine.filling, machine.behind):
                    with self.assertRaises(NoStand) as caught:
                        ask(stand, word)
                    self.assertIsInstance(caught.exception, KeptError)

    def test_no_word(self):
        machine = example(promises=[(3, 4)])
        for word in [*STRANGE, 0, 1, True, (), (True,), (True, True, True), [True, True], (1, 1), (True, 1), (1, True),
                     (None, True), ("1", "1"), (True, "yes"), (False, False), ([True], True)]:
            for ask in (machine.filling, machine.behind):
                with self.assertRaises(NoWord) as caught:
                    ask((True, False), word)
                self.assertIsInstance(caught.exception, KeptError)

    def test_a_stand_need_not_be_a_beginning(self):
        machine = example(starts=[1, 2])
        self.assertEqual(machine.behind((False, False), (False, False)), (False, True))


class TestLikeness(MachineCase):
    def test_like_where_all_that_they_are_made_of_is(self):
        made = {"starts": [1, -2], "promises": [(3,), (3, 4)]}
        self.assertTrue(example(**made) == example(**made))
        self.assertFalse(example(**made) != example(**made))
        self.assertTrue(example(**made) == example(starts=(1, -2), promises=((3,), (3, 4))))
        others = [
            {"starts": [-2, 1]}, {"starts": [1]}, {"starts": []}, {"starts": [1, 2]}, {"promises": [(3, 4), (3,)]},
            {"promises": [(3,)]}, {"promises": [(3,), (3,), (3, 4)]}, {"promises": ()}, {"nexts": [7, 1]},
            {"nexts": [-1, 7]}, {"gates": [GATES[0], GATES[1], ("odd", -6, 5)]}, {"gates": [*GATES, ("and", 1, 2)]},
            {"gates": [GATES[1], GATES[0], GATES[2]]}, {"gates": [("or", 1, -3), *GATES[1:]]}, {"inputs": 3},
            {"boxes": 1, "inputs": 3, "nexts": [7], "starts": [1], "promises": []},
        ]
        for changed in others:
            other = example(**{**made, **changed})
            self.assertFalse(example(**made) == other, changed)
            self.assertTrue(example(**made) != other, changed)

    def test_boxes_and_inputs_count_apart(self):
        self.assertFalse(Machine(1, 1, [], [1]) == Machine(1, 2, [], [1]))
        self.assertFalse(Machine(2, 0, [], [1, 2]) == Machine(2, 1, [], [1, 2]))

    def test_like_nothing_else(self):
        machine = example()
        made = (2, 2, GATES, NEXTS)
        for thing in [*STRANGE, 0, 7, 2, True, False, made, list(made), machine.gates(), Odd(), {"boxes": 2}]:
            self.assertIs(machine == thing, False)
            self.assertIs(thing == machine, False)
            self.assertIs(machine != thing, True)

    def test_asking_leaves_it_alike(self):
        machine = example(starts=[1])
        machine.behind((True, True), (True, True))
        machine.beginnings()
        machine.words()
        with self.assertRaises(NoStand):
            machine.filling(None, None)
        self.assertTrue(machine == example(starts=[1]))


class TestOwnLists(MachineCase):
    def test_told_lists_when_changed_change_nothing(self):
        made = {"starts": [1, -2], "promises": [(3,), (3, 4)]}
        machine = example(**made)
        for ask in (machine.gates, machine.nexts, machine.starts, machine.promises, machine.beginnings, machine.words):
            told = ask()
            self.assertIsInstance(told, list)
            due = list(told)
            told.append(told[0])
            told[0] = None
            self.assertEqual(ask(), due)
            ask().clear()
            self.assertEqual(ask(), due)
        self.assertTrue(machine == example(**made))
        self.assertEqual(len(machine), 7)
        self.assertIs(machine.is_word((True, False)), True)
        self.assertEqual(machine.behind((True, False), (True, False)), (False, False))

    def test_handed_in_lists_when_changed_change_nothing(self):
        gates, nexts, starts, promises = list(GATES), list(NEXTS), [1, -2], [(3,), (3, 4)]
        machine = Machine(2, 2, gates, nexts, starts=starts, promises=promises)
        self.assertEqual((gates, nexts, starts, promises), (GATES, NEXTS, [1, -2], [(3,), (3, 4)]))
        for handed in (gates, nexts, starts, promises):
            handed.clear()
        self.assertTrue(machine == example(starts=[1, -2], promises=[(3,), (3, 4)]))
        self.assertEqual((len(machine), machine.gates(), machine.nexts()), (7, GATES, NEXTS))
        self.assertEqual((machine.starts(), machine.promises()), ([1, -2], [(3,), (3, 4)]))
        self.assertEqual(machine.words(), [(True, False), (True, True)])

    def test_what_is_refused_stays(self):
        gates, nexts, starts, promises = list(GATES), list(NEXTS), [1, 1], [(3,), (-3,)]
        self.refused("starts", 1, gates=gates, nexts=nexts, starts=starts, promises=promises)
        self.assertEqual((gates, nexts, starts, promises), (GATES, NEXTS, [1, 1], [(3,), (-3,)]))


if __name__ == "__main__":
    unittest.main()
