"""Promise 16: of what should always hold just one is told, a run that harms or lean clauses that keep it."""

import random
import unittest

from keptclauses.always import always
from keptclauses.errors import KeptError, NoClauses, NoWish
from keptclauses.failing import fails
from keptclauses.layers import Layers
from keptclauses.lean import lean, why_lean
from keptclauses.machines import Machine
from keptclauses.papers import lets_paper
from keptclauses.still import still
from tests.small import Walked, all_signs, counter, even, random_machine, small_machines, solver_paper
from tests.test_failing import NO_CLAUSES, NO_WISHES
from tests.test_lean import first_left_out
from tests.tools import STRANGE, all_clauses, deadline


def example():
    """Two boxes; the first stays once it is, the second is what an input (3) says where the first one is (gate 4)."""
    return Machine(2, 1, [("and", 1, 3)], [1, 4], starts=[-1, -2])


class AlwaysCase(unittest.TestCase):
    def check(self, walked, sign, **first):
        """That the paper is as told, against a going through of all stands that are come to."""
        machine, wish = walked.machine, ("always", sign)
        paper = always(machine, wish, **first)
        self.assertIs(type(paper), tuple)
        self.assertIs(lets_paper(machine, wish, paper), True)
        least = walked.harm(sign)
        if least is None:
            self.assertEqual((paper[0], len(paper)), ("kept", 4))
            self.assertIsNone(walked.fails(sign, paper[1]))
            self.assertIsNone(first_left_out(walked, sign, paper[1]))
        else:
            self.assertEqual((paper[0], len(paper)), ("run", 2))
            self.assertEqual(len(paper[1][1]), least)
        return paper


class TestPapers(AlwaysCase):
    def test_examples(self):
        walked = Walked(example())
        self.assertEqual(self.check(walked, -1)[:2], ("kept", [(-1,)]))
        self.assertEqual(sorted(self.check(walked, -2)[1]), [(-2,), (-1,)])
        self.assertEqual(self.check(walked, -4)[:2], ("kept", [(-1,)]))
        self.assertEqual(len(self.check(walked, 1)[1][1]), 1)
        self.assertEqual(self.check(walked, -3)[1], ((False, False), [(True,)]))
        self.assertEqual(always(machine=example(), wish=("always", -1)), always(example(), ("always", -1), first=()))

    def test_no_starts_and_nothing_needed(self):
        machine = Machine(1, 0, [("or", 1, -1)], [1])
        self.assertEqual(always(machine, ("always", 2))[:3], ("kept", [], []))
        self.assertEqual(always(machine, ("always", 1)), ("run", ((False,), [()])))
        self.assertEqual(always(machine, ("always", -1)), ("run", ((True,), [()])))

    def test_small_machines_and_each_sign(self):
        words = []
        for machine in small_machines(71, 200):
            walked = Walked(machine)
            for sign in all_signs(machine):
                words.append(self.check(walked, sign)[0])
        self.assertGreater(words.count("kept"), 200)
        self.assertGreater(words.count("run"), 1000)

    def test_four_and_five_boxes(self):
        chance = random.Random(72)
        lengths = []
        for number in range(60):
            machine = random_machine(chance, chance.randint(4, 5), chance.randint(0, 2), 8, starts=4, promises=number % 2)
            walked = Walked(machine)
            for sign in chance.sample(all_signs(machine), 5):
                paper = self.check(walked, sign)
                lengths.append(len(paper[1]) if paper[0] == "kept" else 0)
        self.assertGreater(max(lengths), 2)

    def test_counters(self):
        for bits in (1, 2, 3, 4, 5):
            machine, full = counter(bits)
            self.assertEqual(len(self.check(Walked(machine), -full)[1][1]), 2 ** bits)

    def test_an_even_number_of_boxes(self):
        for boxes in (2, 3, 4, 5):
            machine, sign = even(boxes)
            self.assertEqual(len(self.check(Walked(machine), sign)[1]), 2 ** (boxes - 1))

    def test_not_both(self):
        """Where a run is told, no clauses are kept and bar harm; where clauses are, no run harms."""
        for machine in small_machines(73, 60, most_boxes=2):
            walked = Walked(machine)
            every = all_clauses(machine.boxes())
            for sign in all_signs(machine):
                paper = always(machine, ("always", sign))
                if paper[0] == "run":
                    for clauses in [[], still(machine, every), [(start,) for start in machine.starts()]]:
                        self.assertIsNotNone(fails(machine, ("always", sign), clauses))
                        other = solver_paper(machine, sign, clauses)
                        self.assertIs(lets_paper(machine, ("always", sign), other), False)
                else:
                    self.assertIsNone(walked.harm(sign))

    def test_the_word_is_that_of_layers(self):
        for machine in small_machines(74, 60):
            for sign in all_signs(machine):
                made = Layers(machine, ("always", sign))
                while made.deeper() is None:
                    pass
                paper = always(machine, ("always", sign))
                self.assertEqual(made.paper()[0], paper[0])
                if paper[0] == "run":
                    self.assertEqual(len(made.paper()[1][1]), len(paper[1][1]))


class TestFirst(AlwaysCase):
    def test_none(self):
        for machine in small_machines(75, 30):
            for sign in all_signs(machine)[::3]:
                due = always(machine, ("always", sign))
                self.assertEqual(always(machine, ("always", sign), first=()), due)
                self.assertEqual(always(machine, ("always", sign), first=[]), due)

    def test_kept_ones_are_used(self):
        machine = Machine(3, 0, [("and", 1, 2)], [2, 1, 3], starts=[-1, -2, -3])
        for first in ([(-1,), (-2,)], [(-1, -2)], [(-2,), (-1,)]):
            self.assertEqual(always(machine, ("always", -4), first=first)[1], first)
        # Those that are lean already are told as they are, whatever comes beside them that isn't kept.
        self.assertEqual(always(machine, ("always", -4), first=[(1,), (-1, -2), ()])[1], [(-1, -2)])

    def test_what_is_kept_what_is_not_and_what_is_in_part(self):
        chance = random.Random(76)
        seen = []
        for machine in small_machines(77, 150):
            walked = Walked(machine)
            every = all_clauses(machine.boxes())
            begun = [one for one in every if set(one) & set(machine.starts())]
            for sign in chance.sample(all_signs(machine), min(4, len(machine))):
                due = always(machine, ("always", sign))
                for pool in (every, begun, still(machine, begun)):
                    first = chance.choices(pool, k=chance.randint(1, 6)) if pool else []
                    given = list(first)
                    paper = self.check(walked, sign, first=first)
                    self.assertEqual(first, given)
                    self.assertEqual(paper[0], due[0])
                    if paper[0] == "run":
                        self.assertEqual(paper, due)
                    kept = still(machine, first)
                    if paper[0] == "kept" and walked.fails(sign, kept) is None:
                        for clause in paper[1]:
                            self.assertTrue(any(set(clause) <= set(other) for other in kept))
                    seen.append("none" if not kept else "all" if kept == first else "some")
        for word in ("none", "all", "some"):
            self.assertGreater(seen.count(word), 100, word)

    def test_its_own_clauses_are_told_again(self):
        for machine in small_machines(78, 100):
            for sign in all_signs(machine):
                paper = always(machine, ("always", sign))
                if paper[0] == "kept":
                    self.assertEqual(always(machine, ("always", sign), first=paper[1]), paper)

    def test_clauses_of_another_machine(self):
        chance = random.Random(79)
        for number in range(60):
            machine = random_machine(chance, 4, 1, 6, starts=4)
            gates = machine.gates()
            gates[chance.randrange(6)] = (chance.choice(("and", "or", "odd")), 1, -2)
            other = Machine(4, 1, gates, machine.nexts(), starts=machine.starts())
            walked = Walked(other)
            for sign in chance.sample(all_signs(machine), 6):
                paper = always(machine, ("always", sign))
                if paper[0] == "kept":
                    due = always(other, ("always", sign))
                    told = self.check(walked, sign, first=paper[1])
                    self.assertEqual(told[0], due[0])


class TestRefusals(AlwaysCase):
    def test_no_wish(self):
        for wish in NO_WISHES:
            for first in ((), [(-1,)], None, [None], ((-1,),)):
                with self.assertRaises(NoWish) as caught:
                    always(example(), wish, first=first)
                self.assertIsInstance(caught.exception, KeptError)
            with self.assertRaises(NoWish):
                always(example(), wish)

    def test_no_clauses(self):
        for sign in (-1, 1):
            for thing in [*STRANGE, 0, 1, True, False, ((-1,),), ((-1,), (-2,)), ((),), {(-1,): 1}]:
                if not isinstance(thing, list):
                    self.refused(sign, thing, None)
            for thing in NO_CLAUSES:
                self.refused(sign, [thing], 0)
                self.refused(sign, [(-1,), (), (1,), thing, None], 3)

    def refused(self, sign, first, number):
        with self.assertRaises(NoClauses) as caught:
            always(example(), ("always", sign), first=first)
        self.assertIsInstance(caught.exception, KeptError)
        self.assertEqual(caught.exception.number, number, first)

    def test_first_by_its_name_alone(self):
        with self.assertRaises(TypeError):
            always(example(), ("always", -1), [])


class TestOwnLists(AlwaysCase):
    def test_told_lists_are_the_askers_own(self):
        machine = example()
        due = always(machine, ("always", -2), first=[(-1,)])
        first = [(-1,)]
        paper = always(machine, ("always", -2), first=first)
        for rows in paper[2]:
            rows.clear()
        for part in paper[1:]:
            part.clear()
        self.assertEqual(first, [(-1,)])
        self.assertEqual(always(machine, ("always", -2), first=first), due)
        run = always(machine, ("always", 1))
        run[1][1].append(None)
        self.assertEqual(always(machine, ("always", 1)), ("run", ((False, False), [(False,)])))
        self.assertEqual(machine, example())

    def test_asked_twice_alike(self):
        for machine in small_machines(80, 60):
            for sign in all_signs(machine)[::2]:
                paper = always(machine, ("always", sign))
                always(machine, ("always", -sign), first=[(1,)])
                self.assertEqual(always(machine, ("always", sign)), paper)


class TestLargeMachines(AlwaysCase):
    def test_ten_boxes_four_inputs_and_twenty_four_gates(self):
        chance = random.Random(81)
        words = []
        with deadline(180):
            for number in range(10):
                machine = random_machine(chance, 10, 4, 24, starts=chance.choice((7, 9, 10)), promises=number % 3)
                walked = Walked(machine)
                for sign in chance.sample(all_signs(machine), 12):
                    wish = ("always", sign)
                    paper = always(machine, wish)
                    self.assertIs(lets_paper(machine, wish, paper), True)
                    least = walked.harm(sign)
                    self.assertEqual(paper[0], "kept" if least is None else "run")
                    if least is None:
                        self.assertIsNone(fails(machine, wish, paper[1]))
                        self.assertEqual(len(why_lean(machine, wish, paper[1])), len(paper[1]))
                    else:
                        self.assertEqual(len(paper[1][1]), least)
                    words.append(paper[0])
        self.assertGreater(words.count("kept"), 5)
        self.assertGreater(words.count("run"), 5)

    def test_a_counter_of_ten_boxes(self):
        machine, full = counter(10)
        with deadline(60):
            paper = always(machine, ("always", -full))
            self.assertIs(lets_paper(machine, ("always", -full), paper), True)
        self.assertEqual(len(paper[1][1]), 1024)

    def test_an_even_number_of_ten_boxes(self):
        machine, sign = even(10)
        with deadline(60):
            paper = always(machine, ("always", sign))
            self.assertIs(lets_paper(machine, ("always", sign), paper), True)
        self.assertEqual(len(paper[1]), 512)
        self.assertEqual(lean(machine, ("always", sign), paper[1]), paper[1])

    def test_the_same_reckoned_in_two_orders(self):
        # No clause of boxes is needed, but many rows: whether an odd number of twelve things is, by two chains.
        chance = random.Random(82)
        gates, ends = [], []
        for number in range(2):
            order = chance.sample(range(1, 13), 12)
            odd = order[0]
            for thing in order[1:]:
                gates.append(("odd", odd, thing))
                odd = 12 + len(gates)
            ends.append(odd)
        gates.append(("odd", *ends))
        machine = Machine(10, 2, gates, list(range(1, 11)))
        with deadline(120):
            paper = always(machine, ("always", -35))
            self.assertIs(lets_paper(machine, ("always", -35), paper), True)
        self.assertEqual(paper[:3], ("kept", [], []))


if __name__ == "__main__":
    unittest.main()
