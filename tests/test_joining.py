"""Promise 23: two machines joined by wires."""

import itertools
import random
import unittest

from keptclauses.errors import KeptError, NoWires, TooMany
from keptclauses.joining import joined
from keptclauses.machines import Machine
from tests.small import Walked, random_machine, small_machines
from tests.tools import NO_NUMBERS, STRANGE


def handed_on():
    """One box, which gets what an input, thing 2, says."""
    return Machine(1, 1, [], [2], starts=[-1])


def gated():
    """Two boxes, two inputs (3, 4), one gate (5); a promise of the second input."""
    return Machine(2, 2, [("or", 1, 3)], [5, -4], starts=[2, -1], promises=[(-4,)])


def moved_sign(moved, sign):
    return moved[sign - 1] if sign > 0 else -moved[-sign - 1]


def wires_for(chance, machine, boxes, share=0.5):
    """Some wires for a machine's inputs, none for those of its promises."""
    promised = {abs(sign) for promise in machine.promises() for sign in promise}
    told = []
    for number in range(machine.boxes() + 1, machine.boxes() + machine.inputs() + 1):
        told.append(chance.randint(1, boxes) if number not in promised and chance.random() < share else 0)
    return told


def free_word(wires, word):
    return tuple(truth for wire, truth in zip(wires, word) if not wire)


def said_word(wires, stand, free):
    """The word of one machine, by the stand of the other one and what is said of the inputs without a wire."""
    rest = iter(free)
    return tuple(stand[wire - 1] if wire else next(rest) for wire in wires)


class JoiningCase(unittest.TestCase):
    def check(self, one, other, to_one, to_other):
        """That what is joined is as told, part by part, and by all stands and words."""
        told = joined(one, other, to_one=to_one, to_other=to_other)
        self.assertIs(type(told), tuple)
        made, first, second = told
        self.assertIs(type(made), Machine)
        self.assertEqual((type(first), type(second)), (list, list))
        self.assertEqual((len(first), len(second)), (len(one), len(other)))
        boxes = one.boxes() + other.boxes()
        self.assertEqual(made.boxes(), boxes)
        self.assertEqual(made.inputs(), to_one.count(0) + to_other.count(0))
        self.check_numbers(one, other, to_one, to_other, first, second)
        gates = [(word, moved_sign(moved, a), moved_sign(moved, b))
                 for machine, moved in ((one, first), (other, second)) for word, a, b in machine.gates()]
        self.assertEqual(made.gates(), gates)
        for part in (Machine.nexts, Machine.starts):
            due = [moved_sign(first, sign) for sign in part(one)] + [moved_sign(second, sign) for sign in part(other)]
            self.assertEqual(part(made), due)
        due = [tuple(moved_sign(first, sign) for sign in clause) for clause in one.promises()]
        due += [tuple(moved_sign(second, sign) for sign in clause) for clause in other.promises()]
        self.assertEqual(made.promises(), due)
        return told

    def check_numbers(self, one, other, to_one, to_other, first, second):
        boxes = one.boxes() + other.boxes()
        self.assertEqual(first[:one.boxes()], list(range(1, one.boxes() + 1)))
        self.assertEqual(second[:other.boxes()], list(range(one.boxes() + 1, boxes + 1)))
        free = itertools.count(boxes + 1)
        for machine, wires, moved, ahead in ((one, to_one, first, one.boxes()), (other, to_other, second, 0)):
            for place, wire in enumerate(wires):
                self.assertEqual(moved[machine.boxes() + place], ahead + wire if wire else next(free))
        for machine, moved in ((one, first), (other, second)):
            for number in range(len(machine.gates())):
                self.assertEqual(moved[machine.boxes() + machine.inputs() + number], next(free))

    def check_walk(self, one, other, to_one, to_other):
        """That the joined machine goes as both do, by all stands and words."""
        made, first, second = joined(one, other, to_one=to_one, to_other=to_other)
        walked, left, right = Walked(made), Walked(one), Walked(other)
        self.assertEqual(sorted(walked.beginnings), sorted(a + b for a in left.beginnings for b in right.beginnings))
        self.assertEqual(made.beginnings(), walked.beginnings)
        self.assertEqual(made.words(), walked.words)
        wired = {free_word(to_one, word) + free_word(to_other, more) for word in left.words for more in right.words}
        self.assertEqual(set(walked.words), wired)
        for (stand, word), filling in walked.fillings.items():
            a, b = stand[:one.boxes()], stand[one.boxes():]
            word_a = said_word(to_one, b, word[:to_one.count(0)])
            word_b = said_word(to_other, a, word[to_one.count(0):])
            self.assertEqual(made.behind(stand, word), left.behind(a, word_a) + right.behind(b, word_b))
            self.assertEqual(tuple(filling[number - 1] for number in first), left.fillings[a, word_a])
            self.assertEqual(tuple(filling[number - 1] for number in second), right.fillings[b, word_b])


class TestJoined(JoiningCase):
    def test_example(self):
        one, other = handed_on(), gated()
        made, first, second = self.check(one, other, [2], [1, 0])
        self.assertEqual((first, second), ([1, 3], [2, 3, 1, 4, 5]))
        due = Machine(3, 1, [("or", 2, 1)], [3, 5, -4], starts=[-1, 3, -2], promises=[(-4,)])
        self.assertEqual(made, due)
        made, first, second = self.check(one, other, [0], [0, 0])
        self.assertEqual((first, second), ([1, 4], [2, 3, 5, 6, 7]))
        self.assertEqual(made, Machine(3, 3, [("or", 2, 5)], [4, 7, -6], starts=[-1, 3, -2], promises=[(-6,)]))
        made, first, second = self.check(other, one, [1, 0], [2])
        self.assertEqual((first, second), ([1, 2, 3, 4, 5], [3, 2]))
        self.assertEqual(made, Machine(3, 1, [("or", 1, 3)], [5, -4, 2], starts=[2, -1, -3], promises=[(-4,)]))

    def test_one_machine_as_both(self):
        one = handed_on()
        made, first, second = self.check(one, one, [1], [1])
        self.assertEqual((made, first, second), (Machine(2, 0, [], [2, 1], starts=[-1, -2]), [1, 2], [2, 1]))
        self.assertIsNot(first, second)
        self.check(one, one, [0], [1])
        self.check(one, one, [1], [0])
        self.check_walk(one, one, [1], [0])
        self.check_walk(gated(), gated(), [2, 0], [1, 0])
        self.assertEqual(one, handed_on())

    def test_without_inputs(self):
        one, other = Machine(1, 0, [], [-1]), Machine(2, 0, [("odd", 1, 2)], [3, 1])
        made, first, second = self.check(one, other, [], [])
        self.assertEqual((made, first, second), (Machine(3, 0, [("odd", 2, 3)], [-1, 4, 2]), [1], [2, 3, 4]))

    def test_small_machines_and_wires(self):
        chance = random.Random(241)
        for share in (0, 0.5, 1):
            machines = small_machines(242 + int(2 * share), 80)
            for one, other in zip(machines, machines[1:]):
                to_one, to_other = wires_for(chance, one, other.boxes(), share), wires_for(chance, other, one.boxes(), share)
                if to_one.count(0) + to_other.count(0) <= 4:
                    self.check(one, other, to_one, to_other)
                    if one.boxes() + other.boxes() <= 5:
                        self.check_walk(one, other, to_one, to_other)

    def test_the_largest(self):
        chance = random.Random(245)
        for number in range(5):
            one = random_machine(chance, 6, 4, 14)
            other = random_machine(chance, 4, 4, 10)
            to_one = [0, 1, 0, 4]
            to_other = [6, 0, 1, 0]
            made, first, second = self.check(one, other, to_one, to_other)
            self.assertEqual((made.boxes(), made.inputs(), len(made.gates())), (10, 4, 24))
        eight = joined(promised(4), promised(4), to_one=[0], to_other=[0])[0]
        self.assertEqual(len(eight.promises()), 8)

    def test_what_is_told_and_handed_in_stays_apart(self):
        one, other, to_one, to_other = handed_on(), gated(), [2], [1, 0]
        made, first, second = joined(one=one, other=other, to_one=to_one, to_other=to_other)
        first.clear()
        second.clear()
        self.assertEqual((to_one, to_other, one, other), ([2], [1, 0], handed_on(), gated()))
        to_one[0] = 0
        self.assertEqual(joined(one, other, to_one=[2], to_other=[1, 0]), (made, [1, 3], [2, 3, 1, 4, 5]))


def promised(many, inputs=1):
    return Machine(1, inputs, [], [2], promises=[(2,)] * many)


class TestRefusals(JoiningCase):
    def refused(self, kind, one, other, to_one, to_other):
        with self.assertRaises(kind) as caught:
            joined(one, other, to_one=to_one, to_other=to_other)
        self.assertIs(type(caught.exception), kind)
        return caught.exception

    def test_no_wires(self):
        one, other = gated(), Machine(3, 1, [], [4, 1, 2])
        nones = [*STRANGE, *NO_NUMBERS, 0, 1, [], (), (1, 0), [0], [0, 0, 0], [-1, 0], [4, 0], [True, 0], [False, 0], [None, 0],
                 [0, None], ["1", 0], [[1], 0], [10 ** 50, 0], {0: 1, 1: 0}, [0, 2], [0, 1]]
        for wires in nones:
            refusal = self.refused(NoWires, one, other, wires, [0])
            self.assertEqual(refusal.part, "one")
            self.assertIsInstance(refusal, KeptError)
            self.assertEqual(self.refused(NoWires, one, other, wires, None).part, "one")
            self.assertEqual(self.refused(NoWires, other, one, [0], wires).part, "other")
        self.check(one, other, [3, 0], [2])
        self.assertEqual(self.refused(NoWires, one, other, [3, 0], [3]).part, "other")
        self.assertEqual(self.refused(NoWires, other, one, [3], [3, 0]).part, "one")

    def test_a_promise_with_a_wired_input(self):
        one = Machine(1, 3, [], [2], promises=[(2,), (-2, 3)])
        other = Machine(2, 0, [], [1, 2])
        for wires, fine in [([0, 0, 1], True), ([1, 0, 0], False), ([0, 2, 0], False), ([0, 0, 0], True), ([1, 1, 1], False)]:
            if fine:
                self.check(one, other, wires, [])
                self.check(other, one, [], wires)
            else:
                self.assertEqual(self.refused(NoWires, one, other, wires, []).part, "one")
                self.assertEqual(self.refused(NoWires, other, one, [], wires).part, "other")
                # Such wires of the one go ahead of what are no wires of the other one.
                self.assertEqual(self.refused(NoWires, one, one, wires, None).part, "one")
                self.assertEqual(self.refused(NoWires, one, one, None, wires).part, "one")

    def test_too_many(self):
        def sized(boxes, inputs, gates, promises=0):
            clauses = [(boxes + 1,)] * promises
            return Machine(boxes, inputs, [("and", 1, 1)] * gates, [1] * boxes, promises=clauses)

        for left, right, size in [
            ((6, 0, 0), (5, 0, 0), 11), ((10, 0, 0), (10, 0, 0), 20), ((5, 3, 0), (5, 2, 0), 5), ((5, 4, 0), (5, 4, 0), 8),
            ((5, 2, 13), (5, 2, 12), 25), ((1, 0, 24), (1, 0, 24), 48), ((1, 1, 0, 5), (1, 1, 0, 4), 9),
            ((1, 1, 0, 8), (1, 1, 0, 8), 16), ((6, 3, 13, 5), (6, 3, 13, 5), 12), ((5, 3, 13, 5), (5, 3, 13, 5), 6),
            ((5, 2, 13, 5), (5, 2, 13, 5), 26), ((5, 2, 12, 5), (5, 2, 12, 5), 10),
        ]:
            one, other = sized(*left), sized(*right)
            refusal = self.refused(TooMany, one, other, [0] * one.inputs(), [0] * other.inputs())
            self.assertEqual(refusal.size, size)
            self.assertIsInstance(refusal, OverflowError)
            self.assertEqual(self.refused(NoWires, one, other, [0] * one.inputs(), None).part, "other")
            self.assertEqual(self.refused(NoWires, one, other, None, [0] * other.inputs()).part, "one")
        # With wires there are fewer inputs.
        self.check(sized(5, 4, 12), sized(5, 4, 12), [0, 1, 2, 0], [5, 0, 0, 5])
        self.assertEqual(self.refused(TooMany, sized(5, 4, 12), sized(5, 4, 12), [0, 1, 0, 0], [5, 0, 0, 5]).size, 5)

    def test_wires_by_their_names_alone(self):
        with self.assertRaises(TypeError):
            joined(handed_on(), handed_on(), [0], [0])


if __name__ == "__main__":
    unittest.main()
