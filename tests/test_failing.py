"""Promise 12: what fails first of clauses that should be kept and bar harm."""

import itertools
import random
import unittest

from keptclauses.errors import KeptError, NoClauses, NoWish
from keptclauses.failing import fails
from keptclauses.machines import Machine
from tests.small import Walked, all_signs, counter, random_machine, small_machines
from tests.tools import NO_NUMBERS, STRANGE, Odd, all_clauses

NO, YES = (False,), (True,)


def example():
    """Two boxes; the first stays once it is, the second is what an input (3) says where the first one is (gate 4)."""
    return Machine(2, 1, [("and", 1, 3)], [1, 4], starts=[-1, -2])


# For the machine above, none of these is a wish of what always holds.
NO_WISHES = [
    *STRANGE, 0, 1, True, False, [], (), ("always",), ("again", 1), ("behind", 1, 2), ("always", 1, 2), ["always", 1],
    ("Always", 1), ("always", 0), ("always", 5), ("always", -5), ("always", 61), ("always", 10 ** 40), ("always ", 1),
    ("always", (1,)), (Odd(), 1), (b"always", 1), ("again", 5), ("behind", 1, 9), *[("always", sign) for sign in NO_NUMBERS],
]
# And none of these a clause of its boxes.
NO_CLAUSES = [
    *STRANGE, 0, 1, True, False, [], [1], (0,), (3,), (-3,), (1, 3), (61,), (1, 1), (1, -1), (2, 1), (-2, 1), (True,),
    (False,), (1, True), ("1",), ([1],), ((1,),), {1}, (10 ** 40,),
]


def refused_number(case, machine, wish, clauses):
    with case.assertRaises(NoClauses) as caught:
        fails(machine, wish, clauses)
    case.assertIsInstance(caught.exception, KeptError)
    case.assertNotIsInstance(caught.exception.number, bool)
    return caught.exception.number


class TestExamples(unittest.TestCase):
    def test_kept_and_barring(self):
        self.assertIsNone(fails(example(), ("always", -1), [(-1,)]))
        self.assertIsNone(fails(example(), ("always", -2), [(-1,), (-2,)]))
        self.assertIsNone(fails(example(), ("always", -4), [(-1,)]))

    def test_begin(self):
        self.assertEqual(fails(example(), ("always", -1), [(1,)]), ("begin", 0, (False, False)))
        self.assertEqual(fails(example(), ("always", -1), [(-1,), (1, 2)]), ("begin", 1, (False, False)))
        machine = Machine(2, 0, [], [1, 2], starts=[2])
        self.assertEqual(fails(machine, ("always", 2), [(2,), (1,)]), ("begin", 1, (False, True)))
        self.assertEqual(fails(machine, ("always", 2), [(2,), (-1,)]), ("begin", 1, (True, True)))

    def test_begin_goes_ahead_of_beat_and_bar(self):
        self.assertEqual(fails(example(), ("always", 1), [(-2,), (1,)]), ("begin", 1, (False, False)))

    def test_beat(self):
        # From a stand in which the first box is, the second may come to be.
        self.assertEqual(fails(example(), ("always", -2), [(-2,)]), ("beat", 0, (True, False), YES))
        self.assertEqual(fails(example(), ("always", 1), [(-1, -2), (-2,)]), ("beat", 0, (True, False), YES))
        self.assertEqual(fails(example(), ("always", -1), [(-2, ), (-1, )]), None)

    def test_beat_goes_ahead_of_bar(self):
        self.assertEqual(fails(example(), ("always", 1), [(-2,)])[0], "beat")

    def test_bar(self):
        self.assertEqual(fails(example(), ("always", 1), [(-1,)]), ("bar", (False, False), NO))
        self.assertEqual(fails(example(), ("always", -3), [(-1,)]), ("bar", (False, False), YES))
        self.assertEqual(fails(example(), ("always", -4), [(-1, -2)]), ("beat", 0, (True, False), YES))

    def test_no_clauses_at_all(self):
        self.assertEqual(fails(example(), ("always", -1), []), ("bar", (True, False), NO))
        self.assertEqual(fails(example(), ("always", -4), []), ("bar", (True, False), YES))
        machine = Machine(1, 1, [("or", 1, -1)], [2])
        self.assertIsNone(fails(machine, ("always", 3), []))

    def test_the_empty_clause_holds_at_no_beginning(self):
        self.assertEqual(fails(example(), ("always", -1), [(-1,), ()]), ("begin", 1, (False, False)))
        self.assertEqual(fails(Machine(1, 0, [], [1]), ("always", 1), [()]), ("begin", 0, NO))

    def test_a_clause_twice(self):
        self.assertIsNone(fails(example(), ("always", -1), [(-1,), (-1,)]))
        self.assertEqual(fails(example(), ("always", -2), [(-2,), (-2,)]), ("beat", 0, (True, False), YES))

    def test_words_that_may_not_come(self):
        machine = Machine(2, 1, [("and", 1, 3)], [1, 4], starts=[-1, -2], promises=[(-3,)])
        self.assertIsNone(fails(machine, ("always", -2), [(-2,)]))
        machine = Machine(2, 2, [], [3, 4], starts=[-1], promises=[(3, 4), (-3, -4)])
        self.assertEqual(fails(machine, ("always", -1), [(-1,)]), ("beat", 0, (False, False), (True, False)))
        self.assertEqual(fails(machine, ("always", 3), []), ("bar", (False, False), (False, True)))


class TestByGoingThrough(unittest.TestCase):
    def test_all_lists_of_few_clauses(self):
        for machine in small_machines(21, 60, most_boxes=2):
            walked = Walked(machine)
            every = all_clauses(machine.boxes())
            lists = [[], *([one] for one in every), *(list(two) for two in itertools.product(every, repeat=2))]
            signs = all_signs(machine)[:: max(1, len(machine) // 3)]
            for sign in signs:
                for clauses in lists:
                    due = walked.fails(sign, clauses)
                    self.assertEqual(fails(machine, ("always", sign), clauses), due, (sign, clauses))

    def test_longer_lists(self):
        chance = random.Random(22)
        words = []
        for machine in small_machines(23, 200, most_boxes=4):
            walked = Walked(machine)
            # Clauses that hold at each beginning come further than those that are chosen anyhow.
            every = all_clauses(machine.boxes())
            begun = [one for one in every if set(one) & set(machine.starts())] or every
            for number in range(12):
                clauses = chance.choices(begun, k=chance.randint(0, 5))
                sign = chance.choice(all_signs(machine))
                due = walked.fails(sign, clauses)
                self.assertEqual(fails(machine, ("always", sign), clauses), due)
                words.append(due and due[0])
        for word in ("begin", "beat", "bar", None):
            self.assertGreater(words.count(word), 50, word)

    def test_the_largest_machines(self):
        chance = random.Random(24)
        for number in range(3):
            machine = random_machine(chance, 10, 4, 24, starts=8, promises=number)
            walked = Walked(machine)
            for sign in (1, -15, 38):
                for clauses in ([], [(start,) for start in machine.starts()], [(1, 2, 3)]):
                    self.assertEqual(fails(machine, ("always", sign), clauses), walked.fails(sign, clauses))

    def test_a_counter(self):
        machine, full = counter(10)
        self.assertEqual(fails(machine, ("always", -full), []), ("bar", (True,) * 10, ()))
        below = tuple(-box for box in range(1, 11))
        due = ("beat", 0, (False, *(True,) * 9), ())
        self.assertEqual(fails(machine, ("always", -full), [below]), due)


class TestRefusals(unittest.TestCase):
    def test_no_wish(self):
        for wish in NO_WISHES:
            for clauses in ([], [(1,)], None, [None]):
                with self.assertRaises(NoWish) as caught:
                    fails(example(), wish, clauses)
                self.assertIsInstance(caught.exception, KeptError)

    def test_no_list(self):
        for thing in [*STRANGE, 0, 1, True, False, (), ((1,),), ((1,), (2,)), {(1,): 1}]:
            if not isinstance(thing, list):
                self.assertIsNone(refused_number(self, example(), ("always", 1), thing), thing)

    def test_the_first_that_is_none(self):
        for thing in NO_CLAUSES:
            if thing == () and isinstance(thing, tuple):
                continue
            self.assertEqual(refused_number(self, example(), ("always", 1), [thing]), 0, thing)
            self.assertEqual(refused_number(self, example(), ("always", 1), [(1,), (), thing, None]), 2, thing)
            self.assertEqual(refused_number(self, example(), ("always", -1), [(-1,), thing, thing]), 1, thing)

    def test_clauses_of_the_boxes_alone(self):
        for boxes in (1, 2, 10):
            machine = Machine(boxes, 2, [("and", 1, 1)], [1] * boxes)
            self.assertEqual(refused_number(self, machine, ("always", 1), [(boxes,), (boxes + 1,)]), 1)
            self.assertEqual(refused_number(self, machine, ("always", 1), [(-boxes,), (-boxes - 1,)]), 1)

    def test_what_is_handed_in_stays(self):
        clauses = [(-1,), (-2,)]
        machine = example()
        for again in range(2):
            self.assertIsNone(fails(machine=machine, wish=("always", -2), clauses=clauses))
            self.assertEqual(clauses, [(-1,), (-2,)])
        self.assertEqual(machine, example())


if __name__ == "__main__":
    unittest.main()
