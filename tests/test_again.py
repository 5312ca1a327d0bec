"""Promise 19: of what must come again just one is told, a round that harms or kept clauses and ranks."""

import random
import unittest

from keptclauses.again import again
from keptclauses.errors import KeptError, NoWish
from keptclauses.machines import Machine
from keptclauses.ranks import lets_again
from keptclauses.wishes import harms
from tests.small import Walked, all_signs, counter, even, random_machine, small_machines
from tests.test_ranks import NO_WISHES, are_ranks, example, solver_ranks
from tests.tools import deadline

NO, YES = (False,), (True,)


class AgainCase(unittest.TestCase):
    def check(self, walked, sign):
        """That the paper is as told, against a going through of all stands that are come to."""
        machine, wish = walked.machine, ("again", sign)
        paper = again(machine, wish)
        self.assertIs(type(paper), tuple)
        self.assertIs(lets_again(machine, wish, paper), True)
        longest = walked.lacks(sign, walked.come_to())
        if longest is None:
            self.assertEqual((paper[0], len(paper)), ("round", 2))
            self.assertIs(harms(machine, wish, paper[1]), True)
            return paper
        self.assertEqual((paper[0], len(paper)), ("ranks", 6))
        word, clauses, beats, ranks, falls, top = paper
        self.assertTrue(are_ranks(walked, sign, clauses, ranks))
        # As few ranks as there can be: from some stand that holds the clauses one beat fewer lacks the sign.
        self.assertEqual(walked.lacks(sign, walked.held(clauses)), len(ranks) - 1)
        # And in some run, too: so they tell how many beats in a row, at most, it can be lacked.
        self.assertEqual(longest, len(ranks) - 1)
        return paper


class TestPapers(AgainCase):
    def test_examples(self):
        walked = Walked(example())
        paper = self.check(walked, 1)
        self.assertEqual(paper[1], [(-2,)])
        self.assertEqual(len(paper[3]), 2)
        self.assertEqual(self.check(walked, 2)[0], "round")
        self.assertEqual(len(self.check(walked, -2)[3]), 1)
        self.assertEqual(again(machine=example(), wish=("again", 1)), paper)

    def test_what_always_holds_has_one_rank(self):
        machine = Machine(1, 1, [("or", 1, -1)], [2])
        word, clauses, beats, ranks, falls, top = self.check(Walked(machine), 3)
        self.assertEqual((clauses, beats, len(ranks)), ([], [], 1))

    def test_what_an_input_says_may_never_come(self):
        machine = Machine(1, 1, [], [2], starts=[-1])
        for sign in (1, -1, 2, -2):
            self.assertEqual(self.check(Walked(machine), sign)[0], "round")
        promised = Machine(1, 1, [], [2], starts=[-1], promises=[(2,)])
        self.assertEqual(len(self.check(Walked(promised), 1)[3]), 2)
        self.assertEqual(len(self.check(Walked(promised), 2)[3]), 1)
        self.assertEqual(self.check(Walked(promised), -1)[0], "round")

    def test_a_round_behind_some_beats(self):
        # Three boxes hand on a yes, then it is gone.
        machine = Machine(3, 0, [("and", 1, -1)], [4, 1, 2], starts=[1, -2, -3])
        stand, words, back = self.check(Walked(machine), 3)[1]
        self.assertEqual(stand, (True, False, False))
        self.assertGreater(len(words), back)
        # Back and forth: the round has more than one beat.
        machine = Machine(2, 0, [("and", 1, 2)], [-1, 2], starts=[-1, -2])
        self.assertEqual(len(self.check(Walked(machine), 3)[1][1]), 2)

    def test_small_machines_and_each_sign(self):
        words = []
        ranks = []
        for machine in small_machines(101, 250):
            walked = Walked(machine)
            for sign in all_signs(machine):
                paper = self.check(walked, sign)
                words.append(paper[0])
                ranks.append(len(paper[3]) if paper[0] == "ranks" else 0)
        self.assertGreater(words.count("ranks"), 300)
        self.assertGreater(words.count("round"), 1000)
        self.assertGreater(max(ranks), 3)

    def test_four_and_five_boxes(self):
        chance = random.Random(102)
        clauses = []
        for number in range(80):
            machine = random_machine(chance, chance.randint(4, 5), chance.randint(0, 1), 8, starts=4, promises=number % 2)
            walked = Walked(machine)
            for sign in chance.sample(all_signs(machine), 5):
                paper = self.check(walked, sign)
                clauses.append(len(paper[1]) if paper[0] == "ranks" else 0)
        self.assertGreater(max(clauses), 1)

    def test_counters(self):
        for bits in (1, 2, 3, 4, 5):
            machine, full = counter(bits)
            walked = Walked(machine)
            self.assertEqual(len(self.check(walked, full)[3]), 2 ** bits)
            self.assertEqual(len(self.check(walked, -full)[3]), 2)

    def test_an_even_number_of_boxes(self):
        for boxes in (2, 3, 4):
            machine, sign = even(boxes)
            walked = Walked(machine)
            self.assertEqual(len(self.check(walked, sign)[3]), 1)
            self.assertEqual(self.check(walked, -sign)[0], "round")

    def test_not_both(self):
        """Where a round is told, no ranks are let by with the clauses and ranks of another sign's paper."""
        for machine in small_machines(103, 80, most_boxes=2):
            papers = {sign: again(machine, ("again", sign)) for sign in all_signs(machine)}
            ranked = [paper for paper in papers.values() if paper[0] == "ranks"]
            for sign, paper in papers.items():
                if paper[0] == "round":
                    for other in ranked:
                        self.assertIs(lets_again(machine, ("again", sign), other), False)
                        written = solver_ranks(machine, sign, other[1], other[3])
                        self.assertIs(lets_again(machine, ("again", sign), written), False)


class TestRefusals(AgainCase):
    def test_no_wish(self):
        for wish in NO_WISHES:
            with self.assertRaises(NoWish) as caught:
                again(example(), wish)
            self.assertIsInstance(caught.exception, KeptError)


class TestOwnLists(AgainCase):
    def test_told_lists_are_the_askers_own(self):
        machine = example()
        due = again(machine, ("again", 1))
        paper = again(machine, ("again", 1))
        for part in [*paper[4], *paper[3], *paper[2], *paper[1:]]:
            part.clear()
        self.assertEqual(again(machine, ("again", 1)), due)
        ring = again(machine, ("again", 2))[1]
        ring[1].clear()
        self.assertNotEqual(again(machine, ("again", 2))[1], ring)
        self.assertEqual(machine, example())

    def test_no_list_stands_there_twice(self):
        for machine in small_machines(104, 60):
            for sign in all_signs(machine):
                paper = again(machine, ("again", sign))
                if paper[0] == "ranks":
                    lists = [*paper[1:], *paper[2], *paper[3], *paper[4], *[rows for fall in paper[4] for rows in fall]]
                    self.assertEqual(len({id(one) for one in lists}), len(lists))

    def test_asked_twice_alike(self):
        for machine in small_machines(105, 60):
            for sign in all_signs(machine)[::2]:
                paper = again(machine, ("again", sign))
                again(machine, ("again", -sign))
                self.assertEqual(again(machine, ("again", sign)), paper)


class TestLargeMachines(AgainCase):
    def told(self, machine, sign, seconds=90):
        with deadline(seconds):
            paper = again(machine, ("again", sign))
            self.assertIs(lets_again(machine, ("again", sign), paper), True)
        return paper

    def test_ten_boxes_four_inputs_and_twenty_four_gates(self):
        chance = random.Random(106)
        words = []
        for number in range(8):
            machine = random_machine(chance, 10, 4, 24, starts=chance.choice((5, 9, 10)), promises=number % 3)
            walked = Walked(machine)
            reached = walked.come_to()
            for sign in chance.sample(all_signs(machine), 8):
                paper = self.told(machine, sign)
                longest = walked.lacks(sign, reached)
                self.assertEqual(paper[0], "round" if longest is None else "ranks")
                if longest is not None:
                    self.assertEqual(len(paper[3]), longest + 1)
                words.append(paper[0])
        self.assertGreater(words.count("ranks"), 5)
        self.assertGreater(words.count("round"), 5)

    def test_a_counter_of_ten_boxes(self):
        machine, full = counter(10)
        self.assertEqual(len(self.told(machine, full)[3]), 1024)
        self.assertEqual(len(self.told(machine, -full)[3]), 2)

    def test_a_long_round(self):
        # A counter of nine boxes, and a tenth that stays yes, once the counter is full.
        machine, full = counter(9)
        gates = machine.gates()
        # The tenth box is thing 10: so the gates have one number more.
        gates = [(word, *[sign if abs(sign) < 10 else sign + 1 for sign in signs]) for word, *signs in gates]
        nexts = [sign if abs(sign) < 10 else sign + 1 for sign in machine.nexts()]
        gates.append(("or", full + 1, 10))
        made = Machine(10, 0, gates, [*nexts, 10 + len(gates)], starts=[-box for box in range(1, 11)])
        stand, words, back = self.told(made, -10)[1]
        self.assertEqual((len(words), back), (1024, 512))

    def test_an_even_number_of_ten_boxes(self):
        machine, sign = even(10)
        paper = self.told(machine, sign)
        self.assertEqual((len(paper[1]), len(paper[3])), (512, 1))
        self.assertEqual(self.told(machine, -sign)[0], "round")


if __name__ == "__main__":
    unittest.main()
