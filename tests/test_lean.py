"""Promise 17: lean clauses, and why none of them can be left out."""

import random
import unittest

from keptclauses.errors import KeptError, NoClauses, NotKept, NotLean, NoWish
from keptclauses.failing import fails
from keptclauses.lean import lean, why_lean
from keptclauses.machines import Machine
from tests.small import Walked, all_signs, counter, even, random_machine, small_machines
from tests.test_failing import NO_CLAUSES, NO_WISHES
from tests.tools import STRANGE, all_clauses, deadline


def example():
    """Two boxes; the first stays once it is, the second is what an input (3) says where the first one is (gate 4)."""
    return Machine(2, 1, [("and", 1, 3)], [1, 4], starts=[-1, -2])


def lesser(clauses):
    """The list without each clause, then without each of its signs: which one, which sign or None, and what is left."""
    for number, clause in enumerate(clauses):
        yield number, None, clauses[:number] + clauses[number + 1:]
        for place, sign in enumerate(clause):
            less = clause[:place] + clause[place + 1:]
            yield number, sign, clauses[:number] + [less] + clauses[number + 1:]


def first_left_out(walked, wish_sign, clauses):
    """Which clause, and which sign of it, is the first that can be left out, None where the list is lean."""
    for number, sign, left in lesser(clauses):
        if walked.fails(wish_sign, left) is None:
            return number, sign
    return None


def kept_lists(seed, many, *, most_boxes=3):
    """Small machines with wishes, and clauses that are kept and bar harm, often more than are needed."""
    chance = random.Random(seed)
    for machine in small_machines(seed, many, most_boxes=most_boxes):
        walked = Walked(machine)
        reached = walked.come_to()
        every = [clause for clause in all_clauses(machine.boxes())
                 if all(any((sign > 0) == stand[abs(sign) - 1] for sign in clause) for stand in reached)]
        for sign in all_signs(machine):
            if walked.fails(sign, every) is None:
                yield walked, sign, chance.sample(every, len(every))
                for number in range(4):
                    some = chance.choices(every, k=chance.randint(0, 5)) if every else []
                    if walked.fails(sign, some) is None:
                        yield walked, sign, some


class TestLean(unittest.TestCase):
    def check(self, walked, sign, clauses):
        machine, wish = walked.machine, ("always", sign)
        told = lean(machine, wish, clauses)
        self.assertIs(type(told), list)
        self.assertIsNone(walked.fails(sign, told))
        self.assertIsNone(first_left_out(walked, sign, told))
        for clause in told:
            self.assertTrue(any(set(clause) <= set(other) for other in clauses), clause)
        if first_left_out(walked, sign, clauses) is None:
            self.assertEqual(told, clauses)
        self.assertEqual(lean(machine, wish, told), told)
        return told

    def test_examples(self):
        machine = example()
        self.assertEqual(lean(machine, ("always", -1), [(-1,), (-2,)]), [(-1,)])
        self.assertEqual(lean(machine, ("always", -1), [(-1,), (-1,), (-1, -2)]), [(-1,)])
        self.assertEqual(lean(machine, ("always", -2), [(-1,), (-2,)]), [(-1,), (-2,)])
        self.assertEqual(lean(machine, ("always", -2), [(-2,), (-1,)]), [(-2,), (-1,)])
        self.assertEqual(lean(machine, ("always", -4), [(-1,), (-1, -2), (-2,)]), [(-1,)])

    def test_a_sign_that_can_be_left_out(self):
        machine = Machine(2, 0, [], [1, 2], starts=[-1, -2])
        # Neither clause can go, but signs of them.
        clauses = [(-1, -2), (-1, 2)]
        self.assertIsNone(fails(machine, ("always", -1), clauses))
        told = self.check(Walked(machine), -1, clauses)
        self.assertEqual(told, [(-1,)])

    def test_nothing_is_needed(self):
        machine = Machine(1, 0, [("or", 1, -1)], [1], starts=[-1])
        self.assertEqual(lean(machine, ("always", 2), [(-1,)]), [])
        self.assertEqual(lean(machine, ("always", 2), []), [])

    def test_clauses_that_need_one_another_alone(self):
        # Each of these two leads to the other one: none can go alone, so the list is lean.
        machine = Machine(3, 0, [("or", 3, -3)], [2, 1, 3], starts=[-1, -2, -3])
        clauses = [(-1,), (-2,)]
        self.assertIsNone(fails(machine, ("always", 4), clauses))
        self.assertEqual(lean(machine, ("always", 4), clauses), clauses)
        self.assertEqual(lean(machine, ("always", 4), [*clauses, (-3,)]), clauses)

    def test_by_going_through(self):
        count = leaner = 0
        for walked, sign, clauses in kept_lists(51, 250):
            told = self.check(walked, sign, clauses)
            count += 1
            leaner += told != clauses
        self.assertGreater(count, 400)
        self.assertGreater(leaner, 200)

    def test_many_clauses_of_ten_boxes(self):
        machine, sign = even(10)
        chance = random.Random(52)
        # Each clause that shuts one stand out with an odd number of boxes, and each of them twice.
        clauses = [clause for clause in full_clauses(10) if sum(1 for one in clause if one < 0) % 2 == 1]
        with deadline(60):
            self.assertEqual(lean(machine, ("always", sign), clauses), clauses)
            twice = chance.sample(clauses * 2, len(clauses) * 2)
            self.assertEqual(sorted(lean(machine, ("always", sign), twice)), sorted(clauses))

    def test_what_is_handed_in_stays(self):
        machine, clauses = example(), [(-1,), (-2,), (-1, -2)]
        told = lean(machine=machine, wish=("always", -1), clauses=clauses)
        self.assertEqual(clauses, [(-1,), (-2,), (-1, -2)])
        told.append((1,))
        self.assertEqual(lean(machine, ("always", -1), clauses), [(-1,)])
        same = [(-1,)]
        told = lean(machine, ("always", -1), same)
        told.clear()
        self.assertEqual(same, [(-1,)])
        self.assertEqual(machine, example())


def full_clauses(boxes):
    """All clauses with a sign of each box."""
    told = [()]
    for box in range(1, boxes + 1):
        told = [(*clause, sign) for clause in told for sign in (-box, box)]
    return told


class TestWhyLean(unittest.TestCase):
    def test_examples(self):
        machine = example()
        self.assertEqual(why_lean(machine, ("always", -1), [(-1,)]), [
            [("bar", (True, False), (False,)), ("begin", 0, (False, False))],
        ])
        self.assertEqual(why_lean(machine, ("always", -2), [(-1,), (-2,)]), [
            [("beat", 0, (True, False), (True,)), ("begin", 0, (False, False))],
            [("bar", (False, True), (False,)), ("begin", 1, (False, False))],
        ])
        self.assertEqual(why_lean(Machine(1, 0, [("or", 1, -1)], [1]), ("always", 2), []), [])

    def test_by_going_through(self):
        lean_ones = signs_left = whole_left = 0
        for walked, sign, clauses in kept_lists(53, 200):
            machine, wish = walked.machine, ("always", sign)
            for given in (clauses, lean(machine, wish, clauses)):
                due = first_left_out(walked, sign, given)
                if due is None:
                    lean_ones += 1
                    self.check_told(walked, sign, given)
                    continue
                with self.assertRaises(NotLean) as caught:
                    why_lean(machine, wish, given)
                self.assertIsInstance(caught.exception, KeptError)
                self.assertEqual((caught.exception.number, caught.exception.sign), due)
                signs_left += due[1] is not None
                whole_left += due[1] is None
        self.assertGreater(lean_ones, 200)
        self.assertGreater(whole_left, 100)
        self.assertGreater(signs_left, 5)

    def check_told(self, walked, sign, clauses):
        told = why_lean(walked.machine, ("always", sign), clauses)
        self.assertIs(type(told), list)
        due = [[] for clause in clauses]
        for number, left, rest in lesser(clauses):
            due[number].append(walked.fails(sign, rest))
            self.assertEqual(due[number][-1], fails(walked.machine, ("always", sign), rest))
        self.assertEqual(told, due)

    def test_a_whole_clause_goes_ahead_of_its_signs(self):
        machine = Machine(2, 0, [], [1, 2], starts=[-1, -2])
        for clauses, number, sign in [
            ([(-1,), (-2,)], 1, None), ([(-2,), (-1,)], 0, None), ([(-1,), (-1,)], 0, None),
            ([(-1, -2), (-1,)], 0, None), ([(-1,), (-1, -2)], 1, None),
            ([(-1, -2), (-1, 2)], 0, -1), ([(-1, 2), (-1, -2)], 0, 2),
        ]:
            with self.assertRaises(NotLean) as caught:
                why_lean(machine, ("always", -1), clauses)
            self.assertEqual((caught.exception.number, caught.exception.sign), (number, sign), clauses)

    def test_a_sign_of_an_earlier_clause_goes_ahead_of_a_later_whole_one(self):
        for starts, sign in [([-1, -2, -3], -1), ([-1, -3], -2)]:
            machine = Machine(3, 0, [], [1, 2, 3], starts=starts)
            with self.assertRaises(NotLean) as caught:
                why_lean(machine, ("always", -1), [(-1, -2), (-1, 2), (-3,)])
            self.assertEqual((caught.exception.number, caught.exception.sign), (0, sign))

    def test_many_clauses_of_ten_boxes(self):
        machine, sign = even(10)
        clauses = [clause for clause in full_clauses(10) if sum(1 for one in clause if one < 0) % 2 == 1]
        with deadline(60):
            told = why_lean(machine, ("always", sign), clauses)
        self.assertEqual((len(told), {len(one) for one in told}), (512, {11}))

    def test_told_lists_are_the_askers_own(self):
        machine, clauses = example(), [(-1,), (-2,)]
        told = why_lean(machine=machine, wish=("always", -2), clauses=clauses)
        due = [list(one) for one in told]
        told[0].clear()
        told.pop()
        self.assertEqual(why_lean(machine, ("always", -2), clauses), due)
        self.assertEqual(clauses, [(-1,), (-2,)])


class TestRefusals(unittest.TestCase):
    def test_not_kept(self):
        count = 0
        chance = random.Random(54)
        for machine in small_machines(55, 150):
            walked = Walked(machine)
            every = all_clauses(machine.boxes())
            for sign in chance.sample(all_signs(machine), min(3, len(machine))):
                clauses = chance.choices(every, k=chance.randint(0, 3))
                failing = walked.fails(sign, clauses)
                if failing is None:
                    continue
                count += 1
                for function in (lean, why_lean):
                    with self.assertRaises(NotKept) as caught:
                        function(machine, ("always", sign), clauses)
                    self.assertIsInstance(caught.exception, KeptError)
                    self.assertEqual(caught.exception.failing, failing)
        self.assertGreater(count, 200)

    def test_not_kept_goes_ahead_of_not_lean(self):
        with self.assertRaises(NotKept) as caught:
            why_lean(example(), ("always", -2), [(-2,), (-2,)])
        self.assertEqual(caught.exception.failing, ("beat", 0, (True, False), (True,)))

    def test_no_wish_goes_ahead_of_all(self):
        for function in (lean, why_lean):
            for wish in NO_WISHES:
                for clauses in ([(-1,)], [(1,)], None, [None], [(-1,), (-1,)]):
                    with self.assertRaises(NoWish):
                        function(example(), wish, clauses)

    def test_no_clauses(self):
        for function in (lean, why_lean):
            for thing in [*STRANGE, 0, 1, True, False, (), ((-1,),), {(-1,): 1}]:
                if not isinstance(thing, list):
                    self.refused(function, thing, None)
            for thing in NO_CLAUSES:
                self.refused(function, [(-1,), thing], 1)
                # Though the first one holds at no beginning.
                self.refused(function, [(1,), (2,), thing, None], 2)

    def refused(self, function, clauses, number):
        with self.assertRaises(NoClauses) as caught:
            function(example(), ("always", -1), clauses)
        self.assertEqual(caught.exception.number, number, clauses)


class TestLargeMachines(unittest.TestCase):
    def test_ten_boxes_four_inputs_and_twenty_four_gates(self):
        chance = random.Random(56)
        count = 0
        with deadline(120):
            for number in range(30):
                machine = random_machine(chance, 10, 4, 24, starts=9)
                starts = [(sign,) for sign in machine.starts()]
                for sign in all_signs(machine):
                    if fails(machine, ("always", sign), starts) is None:
                        count += 1
                        told = lean(machine, ("always", sign), starts + [starts[0] + (10,)])
                        due = [[fails(machine, ("always", sign), left) for which, left_out, left in lesser(told) if which == at]
                               for at in range(len(told))]
                        self.assertEqual(why_lean(machine, ("always", sign), told), due)
        machine, full = counter(10)
        with self.assertRaises(NotKept) as caught:
            lean(machine, ("always", -full), [])
        self.assertEqual(caught.exception.failing, ("bar", (True,) * 10, ()))


if __name__ == "__main__":
    unittest.main()
