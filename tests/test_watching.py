"""Promise 20: machines watched for what must come behind something."""

import itertools
import random
import unittest

from keptclauses.errors import KeptError, TooMany
from keptclauses.machines import Machine
from keptclauses.watching import watched
from keptclauses.wishes import harms
from tests.small import Walked, all_signs, random_machine, small_machines

NO, YES = (False,), (True,)


def example():
    """Two boxes; the first stays once it is, the second is what an input (3) says where the first one is (gate 4)."""
    return Machine(2, 1, [("and", 1, 3)], [1, 4], starts=[-1, -2], promises=[(-3,)])


def moved_sign(moved, sign):
    return moved[sign - 1] if sign > 0 else -moved[-sign - 1]


def sized(boxes, gates):
    return Machine(boxes, 1, [("and", 1, boxes + 1)] * gates, [1] * boxes)


def pairs(chance, machine, many):
    """So many pairs of signs, among them one alike and one turned about."""
    signs = all_signs(machine)
    sign = chance.choice(signs)
    return [(sign, sign), (sign, -sign)] + [(chance.choice(signs), chance.choice(signs)) for number in range(many)]


def harmed_by_hand(walked, one, other, ring):
    """Whether a round harms, word for word as the document tells it."""
    stand, words, back = ring
    fillings = []
    for word in words:
        fillings.append((stand, word))
        stand = walked.behind(stand, word)
    ones = [walked.says(*beat, one) for beat in fillings]
    others = [walked.says(*beat, other) for beat in fillings]
    if any(others[back:]):
        return False
    return any(ones[back:]) or any(ones[beat] and not any(others[beat:]) for beat in range(back))


def rounds(walked, most):
    """All rounds of at most so many beats."""
    for many in range(1, most + 1):
        for stand in walked.beginnings:
            for words in itertools.product(walked.words, repeat=many):
                stands = [stand]
                for word in words:
                    stands.append(walked.behind(stands[-1], word))
                for back in range(many):
                    if stands[back] == stands[-1]:
                        yield stand, list(words), back


class TestWatched(unittest.TestCase):
    def check_parts(self, machine, one, other):
        """That the watched machine is as told, by all stands and words of both."""
        told = watched(machine, one, other)
        self.assertIs(type(told), tuple)
        made, sign, moved = told
        self.assertIs(type(made), Machine)
        self.assertIs(type(sign), int)
        self.assertIs(type(moved), list)
        boxes = machine.boxes()
        self.assertEqual((made.boxes(), made.inputs()), (boxes + 1, machine.inputs()))
        self.assertEqual(len(moved), len(machine))
        self.assertEqual(moved[:boxes], list(range(1, boxes + 1)))
        self.assertEqual(moved[boxes:boxes + machine.inputs()], list(range(boxes + 2, boxes + 2 + machine.inputs())))
        self.assertEqual(made.words(), machine.words())
        self.assertEqual(made.beginnings(), [(*stand, False) for stand in machine.beginnings()])
        first, second = Walked(machine), Walked(made)
        for stand, word in first.fillings:
            for due in (False, True):
                filling = second.fillings[(*stand, due), word]
                self.assertEqual(tuple(filling[number - 1] for number in moved), first.fillings[stand, word])
                stays = not first.says(stand, word, other) and (due or first.says(stand, word, one))
                self.assertEqual(second.behind((*stand, due), word), (*first.behind(stand, word), stays))
        return first, second, sign

    def test_example(self):
        first, second, sign = self.check_parts(example(), 1, 2)
        self.assertEqual(watched(machine=example(), one=1, other=2)[2], [1, 2, 4, 5])
        self.assertEqual(second.machine.starts(), [-1, -2, -3])
        self.assertEqual(second.machine.promises(), [(-4,)])

    def test_small_machines(self):
        chance = random.Random(201)
        for machine in small_machines(202, 150):
            for one, other in pairs(chance, machine, 4):
                self.check_parts(machine, one, other)

    def test_rounds_harm_again_just_where_they_harm_behind(self):
        chance = random.Random(203)
        harmed = passed = 0
        for machine in small_machines(204, 60, most_boxes=2):
            for one, other in pairs(chance, machine, 4):
                first, second, sign = self.check_parts(machine, one, other)
                for stand, words, back in rounds(second, 4):
                    due = harmed_by_hand(first, one, other, (stand[:-1], words, back))
                    self.assertIs(harms(second.machine, ("again", sign), (stand, words, back)), due)
                    harmed += due
                    passed += not due
                for stand, words, back in rounds(first, 3):
                    ring = (stand, words, back)
                    due = harmed_by_hand(first, one, other, ring)
                    self.assertIs(harms(machine, ("behind", one, other), ring), due)
                    # Once more about, and what is due in the round is due where it begins.
                    longer = ((*stand, False), words + words[back:], len(words))
                    self.assertIs(harms(second.machine, ("again", sign), longer), due)
        self.assertGreater(harmed, 500)
        self.assertGreater(passed, 500)

    def test_the_largest_machines(self):
        chance = random.Random(205)
        for number in range(3):
            machine = random_machine(chance, 9, 4, 22, promises=number)
            self.check_parts(machine, chance.choice(all_signs(machine)), chance.choice(all_signs(machine)))
        self.assertEqual(watched(sized(9, 22), 1, 32)[0].boxes(), 10)
        self.assertEqual(watched(sized(1, 0), 1, -2)[0].boxes(), 2)

    def test_what_is_told_is_the_askers_own(self):
        machine = example()
        made, sign, moved = watched(machine, 1, 2)
        moved.clear()
        made.gates().clear()
        self.assertEqual(watched(machine, 1, 2)[2], [1, 2, 4, 5])
        self.assertEqual(watched(machine, 1, 2)[:2], (made, sign))
        self.assertEqual(machine, example())


class TestTooMany(unittest.TestCase):
    def test_boxes_ahead_of_gates(self):
        for boxes, gates, size in [(10, 0, 10), (10, 22, 10), (9, 23, 23), (1, 23, 23), (9, 24, 24), (10, 23, 10), (10, 24, 10)]:
            with self.assertRaises(TooMany) as caught:
                watched(sized(boxes, gates), 1, 1)
            self.assertEqual(caught.exception.size, size)
            self.assertIsInstance(caught.exception, OverflowError)
            self.assertNotIsInstance(caught.exception, KeptError)


if __name__ == "__main__":
    unittest.main()
