"""Promise 24: two machines under the promises of one another's wishes."""

import copy
import random
import unittest

from keptclauses.errors import KeptError, NoPromises, NoWires, NoWish, TooMany
from keptclauses.joining import joined
from keptclauses.machines import Machine
from keptclauses.papers import lets_paper
from keptclauses.promising import under_promises
from tests.small import Walked, random_machine, small_machines
from tests.test_answers import empty
from tests.test_joining import gated, handed_on, moved_sign, promised, wires_for
from tests.tools import NO_NUMBERS, STRANGE, deadline


def with_promises(machine, wires, sign):
    """The machine with what is promised of the other one's wish, told by hand."""
    more = []
    for place, wire in enumerate(wires):
        if wire == abs(sign):
            thing = machine.boxes() + 1 + place
            more.append((thing,) if sign > 0 else (-thing,))
    return Machine(machine.boxes(), machine.inputs(), machine.gates(), machine.nexts(), starts=machine.starts(),
                   promises=machine.promises() + more)


def some_sign(chance, machine):
    """A sign of a box, mostly one that is a start, and so can be kept."""
    if machine.starts() and chance.random() < 0.8:
        return chance.choice(machine.starts())
    return chance.choice((1, -1)) * chance.randint(1, machine.boxes())


class PromisingCase(unittest.TestCase):
    def check(self, one, other, wishes, to_one, to_other):
        """That what is told is as told in the document, against a going through of all stands."""
        told = under_promises(one, other, wishes, to_one=to_one, to_other=to_other)
        self.assertEqual((type(told), len(told)), (tuple, 3))
        first = with_promises(one, to_one, wishes[1])
        second = with_promises(other, to_other, wishes[0])
        for machine, sign, paper in ((first, wishes[0], told[0]), (second, wishes[1], told[1])):
            self.assertIs(lets_paper(machine, ("always", sign), paper), True)
            walked = Walked(machine)
            self.assertEqual(paper[0], "run" if walked.harm(sign) else "kept")
            if paper[0] == "run":
                self.assertEqual(len(paper[1][1]), walked.harm(sign))
        if told[0][0] == "run" or told[1][0] == "run":
            self.assertIsNone(told[2])
        else:
            self.check_joint(one, other, wishes, to_one, to_other, told)
        return told

    def check_joint(self, one, other, wishes, to_one, to_other, told):
        made, first, second = joined(one, other, to_one=to_one, to_other=to_other)
        walked = Walked(made)
        self.assertEqual((type(told[2]), len(told[2])), (tuple, 2))
        clauses = [tuple(moved_sign(first, sign) for sign in clause) for clause in told[0][1]]
        clauses += [tuple(moved_sign(second, sign) for sign in clause) for clause in told[1][1]]
        for paper, sign in zip(told[2], (moved_sign(first, wishes[0]), moved_sign(second, wishes[1]))):
            self.assertEqual(paper[:2], ("kept", clauses))
            self.assertIs(lets_paper(made, ("always", sign), paper), True)
            self.assertIsNone(walked.fails(sign, clauses))
            self.assertIsNone(walked.harm(sign))


class TestTold(PromisingCase):
    def test_kept_by_one_another_alone(self):
        # Either box gets what the other one is: no as long as that is no.
        one = handed_on()
        told = self.check(one, one, (-1, -1), [1], [1])
        self.assertEqual([paper[0] for paper in told[:2]], ["kept", "kept"])
        self.assertEqual([paper[1] for paper in told[2]], [[(-1,), (-2,)]] * 2)
        # Without the wire to one of them, or with a wish of which nothing is promised, it is harmed.
        self.assertEqual([paper[0] for paper in self.check(one, one, (-1, -1), [0], [1])[:2]], ["run", "kept"])
        self.assertEqual([paper[0] for paper in self.check(one, one, (-1, -1), [1], [0])[:2]], ["kept", "run"])
        self.assertEqual([paper[0] for paper in self.check(one, one, (-1, -1), [0], [0])[:2]], ["run", "run"])
        self.assertEqual([paper[0] for paper in self.check(one, one, (-1, 1), [1], [1])[:2]], ["run", "run"])

    def test_what_is_promised(self):
        # Box 1 is once one of three inputs is; the two that are wired to box 2 of the other one are promised.
        one = Machine(1, 3, [("or", 2, 3), ("or", 4, 5)], [6], starts=[-1])
        other = Machine(2, 0, [], [1, 2], starts=[-1, -2])
        for wires, due in [([2, 2, 2], "kept"), ([2, 0, 2], "run"), ([2, 1, 2], "run"), ([1, 1, 1], "run")]:
            told = self.check(one, other, (-1, -2), wires, [])
            self.assertEqual((told[0][0], told[1][0]), (due, "kept"))
            self.assertEqual(told[2] is None, due == "run")

    def test_where_one_is_harmed_there_are_no_papers_of_both(self):
        one = handed_on()
        other = Machine(1, 0, [], [-1], starts=[-1])
        told = self.check(one, other, (-1, -1), [1], [])
        self.assertEqual((told[0][0], told[1][0], told[2]), ("kept", "run", None))
        self.assertIsNone(self.check(other, one, (-1, -1), [], [1])[2])

    def test_own_promises_stand_ahead(self):
        told = self.check(gated(), handed_on(), (2, -1), [1, 0], [0])
        self.assertEqual(told[0][0], "kept")
        told = self.check(gated(), handed_on(), (-1, -1), [1, 0], [1])
        self.assertEqual((told[0][0], told[1][0]), ("kept", "kept"))

    def test_small_machines_wires_and_signs(self):
        chance = random.Random(251)
        kept = harmed = 0
        for share, seed in ((0.5, 252), (1, 253)):
            machines = small_machines(seed, 250)
            for one, other in zip(machines, machines[1:]):
                to_one, to_other = wires_for(chance, one, other.boxes(), share), wires_for(chance, other, one.boxes(), share)
                for number in range(4):
                    wishes = tuple(some_sign(chance, machine) for machine in (one, other))
                    told = self.check(one, other, wishes, to_one, to_other)
                    kept += told[2] is not None
                    harmed += told[2] is None
        self.assertGreater(kept, 40)
        self.assertGreater(harmed, 500)

    def test_kept_only_together(self):
        """Machines whose signs hold by the promises alone are found, too, in many forms."""
        chance = random.Random(254)
        only = 0
        for number in range(400):
            one, other = [random_machine(chance, 2, 1, 2, starts=2) for turn in range(2)]
            to_one, to_other = [chance.randint(1, 2)], [chance.randint(1, 2)]
            wishes = (chance.choice(one.starts()), chance.choice(other.starts()))
            told = self.check(one, other, wishes, to_one, to_other)
            alone = [Walked(machine).harm(sign) for machine, sign in zip((one, other), wishes)]
            only += told[2] is not None and None not in alone
        self.assertGreater(only, 3)

    def test_the_largest(self):
        chance = random.Random(255)
        for number in range(4):
            one, other = random_machine(chance, 5, 4, 12, starts=5), random_machine(chance, 5, 4, 12, starts=5)
            for turn in range(4):
                wishes = (chance.choice(one.starts()), chance.choice(other.starts()))
                with deadline(60):
                    self.check(one, other, wishes, [abs(wishes[1])] * 4, [0, 0, abs(wishes[0]), 0])
        # Nine boxes that hand on what an input says, and one that gives what the ninth is.
        one = Machine(9, 1, [], [10, *range(1, 9)], starts=[-box for box in range(1, 10)])
        with deadline(60):
            told = self.check(one, handed_on(), (-9, -1), [1], [9])
        self.assertEqual(len(told[2][0][1]), 10)

    def test_what_is_told_is_the_askers_own(self):
        one, to_one, to_other = handed_on(), [1], [1]
        due = under_promises(one, one, (-1, -1), to_one=to_one, to_other=to_other)
        told = under_promises(other=one, wishes=(-1, -1), one=one, to_other=to_other, to_one=to_one)
        self.assertEqual(told, due)
        ahead = copy.deepcopy(told[2][1])
        empty(told[2][0])
        self.assertEqual(told[2][1], ahead)
        empty(told)
        self.assertEqual(under_promises(one, one, (-1, -1), to_one=to_one, to_other=to_other), due)
        self.assertEqual((one, to_one, to_other), (handed_on(), [1], [1]))


class TestRefusals(PromisingCase):
    def refused(self, kind, one, other, wishes, to_one, to_other):
        with self.assertRaises(kind) as caught:
            under_promises(one, other, wishes, to_one=to_one, to_other=to_other)
        self.assertIs(type(caught.exception), kind)
        return caught.exception

    def test_no_wires_first(self):
        one = handed_on()
        for wires in [*[thing for thing in NO_NUMBERS if thing != [1]], 0, 1, [2], [-1], [True], (1,), [1, 1]]:
            self.assertEqual(self.refused(NoWires, one, one, None, wires, [0]).part, "one")
            self.assertEqual(self.refused(NoWires, one, one, None, wires, None).part, "one")
            self.assertEqual(self.refused(NoWires, one, one, None, [0], wires).part, "other")
        self.assertEqual(self.refused(NoWires, promised(1), one, (1, 1), [1], [1]).part, "one")
        self.assertEqual(self.refused(NoWires, one, promised(8), (1, 9), [1], [1]).part, "other")

    def test_then_no_wish(self):
        one, other = gated(), Machine(3, 1, [], [4, 1, 2])
        for wishes in [*STRANGE, *NO_NUMBERS, 0, 1, [1, 1], (), (1,), (1, 1, 1), (0, 1), (1, 0), (3, 1), (-3, 1), (1, 4), (1, -4),
                       ("1", 1), (1, None), ((1, 1),), (("always", 1), ("always", 1)), (True, 1), (1, True), (1, [1])]:
            self.assertIsInstance(self.refused(NoWish, one, other, wishes, [0, 0], [0]), KeptError)
        self.check(one, other, (-2, 3), [3, 0], [0])
        # Ahead of promises that are too many, and of machines too great.
        self.refused(NoWish, eight_and_wired(), other, (2, 1), [0, 1], [0])
        great = Machine(10, 0, [], [1] * 10)
        self.refused(NoWish, great, great, (1, 11), [], [])

    def test_then_no_promises(self):
        other = Machine(1, 1, [], [2])
        for one, to_one in ((eight_and_wired(), [0, 1]), (eight_and_wired(more=2), [0, 1, 1])):
            self.assertIsInstance(self.refused(NoPromises, one, other, (1, 1), to_one, [0]), KeptError)
            self.refused(NoPromises, one, other, (1, -1), to_one, [0])
            self.refused(NoPromises, other, one, (1, 1), [0], to_one)
        # Where no wire takes the wish's box nothing is promised; seven promises leave room for one more.
        self.check(eight_and_wired(), Machine(2, 0, [], [1, 2]), (1, 2), [0, 1], [])
        self.refused(NoPromises, eight_and_wired(), Machine(2, 0, [], [1, 2]), (1, 1), [0, 1], [])
        seven = Machine(1, 2, [], [2], promises=[(2,)] * 7)
        self.check(seven, other, (1, 1), [0, 1], [0])
        self.refused(NoPromises, Machine(1, 3, [], [2], promises=[(2,)] * 7), other, (1, 1), [0, 1, 1], [0])
        # Ahead of machines too great.
        self.refused(NoPromises, eight_and_wired(), Machine(10, 0, [], [1] * 10), (1, 1), [0, 1], [])

    def test_then_too_many(self):
        for one, other, size in [
            (Machine(6, 0, [], [1] * 6), Machine(5, 0, [], [1] * 5), 11), (Machine(1, 3, [], [1]), Machine(1, 2, [], [1]), 5),
            (Machine(1, 0, [("and", 1, 1)] * 13, [1]), Machine(1, 0, [("and", 1, 1)] * 12, [1]), 25),
            (promised(5), promised(4), 9),
        ]:
            wires = [[0] * one.inputs(), [0] * other.inputs()]
            # Also where one of both is harmed, and so nothing is told of the joined machine.
            self.assertEqual(self.refused(TooMany, one, other, (1, 1), *wires).size, size)
            self.assertEqual(self.refused(TooMany, one, other, (-1, -1), *wires).size, size)

    def test_wires_by_their_names_alone(self):
        with self.assertRaises(TypeError):
            under_promises(handed_on(), handed_on(), (1, 1), [0], [0])


def eight_and_wired(more=1):
    """A machine with eight promises of its first input, and more inputs."""
    return Machine(1, 1 + more, [], [2], promises=[(2,)] * 8)


if __name__ == "__main__":
    unittest.main()
