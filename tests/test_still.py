"""Promise 21: the most of some clauses that still are kept together."""

import itertools
import random
import unittest

from keptclauses.errors import KeptError, NoClauses
from keptclauses.machines import Machine
from keptclauses.still import still
from tests.small import Walked, random_machine, small_machines
from tests.test_failing import NO_CLAUSES
from tests.tools import STRANGE, all_clauses, deadline, holds_by


def example():
    """Two boxes; the first stays once it is, the second is what an input (3) says where the first one is (gate 4)."""
    return Machine(2, 1, [("and", 1, 3)], [1, 4], starts=[-1, -2])


def are_kept(walked, clauses):
    """Whether clauses are kept, by going through all stands."""
    if not all(holds_by(clause, stand) for clause in clauses for stand in walked.beginnings):
        return False
    held = walked.held(clauses)
    return all(walked.behind(stand, word) in held for stand in held for word in walked.words)


def most(walked, clauses):
    """The most of these clauses that are kept: what is kept of any part of them, taken together."""
    told = set()
    for many in range(len(clauses) + 1):
        for some in itertools.combinations(range(len(clauses)), many):
            if are_kept(walked, [clauses[number] for number in some]):
                told |= set(some)
    return [clauses[number] for number in sorted(told)]


class TestStill(unittest.TestCase):
    def test_examples(self):
        machine = example()
        for clauses, due in [
            ([], []), ([(-1,)], [(-1,)]), ([(-2,)], []), ([(-1,), (-2,)], [(-1,), (-2,)]), ([(-2,), (-1,)], [(-2,), (-1,)]),
            ([(1,), (-1,), ()], [(-1,)]), ([(-2,), (-1, -2)], []), ([(-1,), (2,), (-2,), (-1,)], [(-1,), (-2,), (-1,)]),
            ([()], []), ([(-1, 2), (-1,)], [(-1, 2), (-1,)]), ([(-1, 2)], []),
        ]:
            self.assertEqual(still(machine, clauses), due, clauses)

    def test_one_goes_with_another(self):
        # What box 1 gets is box 2, what that gets box 3, which an input fills: so none of them stays.
        machine = Machine(3, 1, [], [2, 3, 4], starts=[-1, -2, -3])
        self.assertEqual(still(machine, [(-1,), (-2,), (-3,)]), [])
        machine = Machine(3, 1, [], [2, 3, 4], starts=[-1, -2, -3], promises=[(-4,)])
        self.assertEqual(still(machine, [(-1,), (-2,), (-3,)]), [(-1,), (-2,), (-3,)])
        self.assertEqual(still(machine, [(-1,), (-2,)]), [])

    def test_each_as_often_as_it_stands_there(self):
        self.assertEqual(still(example(), [(-1,), (-2,), (-1,), (-2,), (1,)]), [(-1,), (-2,), (-1,), (-2,)])

    def test_by_all_parts(self):
        chance = random.Random(61)
        kept = parted = 0
        for machine in small_machines(62, 250):
            walked = Walked(machine)
            begun = [one for one in all_clauses(machine.boxes()) if set(one) & set(machine.starts())]
            for number in range(4):
                clauses = chance.choices(begun, k=5) if begun else []
                clauses += chance.choices(all_clauses(machine.boxes()), k=2)
                chance.shuffle(clauses)
                due = most(walked, clauses)
                self.assertEqual(still(machine, clauses), due, clauses)
                self.assertTrue(are_kept(walked, due))
                self.assertEqual(still(machine, due), due)
                kept += due != []
                parted += 0 < len(due) < len([one for one in clauses if set(one) & set(machine.starts())])
        self.assertGreater(kept, 300)
        self.assertGreater(parted, 100)

    def test_the_largest_machines(self):
        chance = random.Random(63)
        for number in range(3):
            machine = random_machine(chance, 10, 4, 24, starts=9)
            walked = Walked(machine)
            reached = walked.come_to()
            clauses = [tuple(sorted((start, other), key=abs)) for start in machine.starts()
                       for other in machine.starts() if abs(start) != abs(other)]
            clauses += [(start,) for start in machine.starts()]
            with deadline(30):
                told = still(machine, clauses)
            self.assertTrue(are_kept(walked, told))
            # Where a clause holds at no stand that is come to it can't be kept.
            for clause in told:
                self.assertTrue(all(holds_by(clause, stand) for stand in reached))

    def test_no_clauses(self):
        for thing in [*STRANGE, 0, 1, True, False, (), ((-1,),), {(-1,): 1}]:
            if not isinstance(thing, list):
                self.refused(thing, None)
        for thing in NO_CLAUSES:
            self.refused([thing], 0)
            self.refused([(1,), (), thing, None], 2)

    def refused(self, clauses, number):
        with self.assertRaises(NoClauses) as caught:
            still(example(), clauses)
        self.assertIsInstance(caught.exception, KeptError)
        self.assertEqual(caught.exception.number, number, clauses)

    def test_what_is_handed_in_stays(self):
        clauses = [(-1,), (1,), (-2,)]
        machine = example()
        told = still(machine=machine, clauses=clauses)
        told.clear()
        self.assertEqual(clauses, [(-1,), (1,), (-2,)])
        self.assertEqual(still(machine, clauses), [(-1,), (-2,)])
        same = [(-1,)]
        still(machine, same).clear()
        self.assertEqual(same, [(-1,)])
        self.assertEqual(machine, example())


if __name__ == "__main__":
    unittest.main()
