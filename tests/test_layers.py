"""Promises 14 and 15: layers, and going deeper until a paper is come to."""

import random
import unittest

from keptclauses.errors import KeptError, NoWish
from keptclauses.layers import Layers, lets_layers
from keptclauses.machines import Machine
from keptclauses.papers import lets_paper
from tests.small import Walked, all_signs, counter, even, random_machine, small_machines
from tests.test_failing import NO_WISHES as NO_ALWAYS
from tests.tools import STRANGE, Odd, all_clauses, deadline, holds_by


def example():
    """Three boxes, the first of which begins as yes and goes on through them; at the fourth beat it is gone."""
    return Machine(3, 0, [("and", 1, -1)], [4, 1, 2], starts=[1, -2, -3])


def four_things():
    """A machine for which the wishes that are none of another test are none, too."""
    return Machine(2, 1, [("and", 1, 3)], [1, 4], starts=[-1, -2])


# Box 2 is at the second beat, box 3 at the third.
WISH = ("always", -3)


class LayersCase(unittest.TestCase):
    def let_by(self, thing, machine=None, wish=WISH):
        told = lets_layers(machine or example(), wish, thing)
        self.assertIs(type(told), bool)
        return told


def lets_by_hand(walked, sign, layers):
    """Whether layers of clauses of the boxes are as told, by going through all stands."""
    starts = [(start,) for start in walked.machine.starts()]
    if layers[:1] != [starts]:
        return False
    for number, layer in enumerate(layers):
        if number > 1 and any(clause not in layers[number - 1] for clause in layer):
            return False
        for clause in layer:
            if not all(holds_by(clause, stand) for stand in walked.beginnings):
                return False
            if number and not all(holds_by(clause, walked.behind(stand, word))
                                  for stand in walked.held(layers[number - 1]) for word in walked.words):
                return False
        if number < len(layers) - 1 and not all(walked.says(stand, word, sign)
                                                for stand in walked.held(layer) for word in walked.words):
            return False
    return True


class TestLetsLayers(LayersCase):
    def test_one_layer_alone(self):
        starts = [(1,), (-2,), (-3,)]
        for sign in all_signs(example()):
            self.assertIs(self.let_by([starts], wish=("always", sign)), True, sign)
        for layer in [[], starts[:2], starts[::-1], [*starts, (1,)], [(1,), (-2,), (3,)], [(1, -2), (-2,), (-3,)],
                      [(1,), (-2,), (-2,)], [*starts, (1, -2)]]:
            self.assertIs(self.let_by([layer]), False, layer)

    def test_no_starts(self):
        machine = Machine(1, 0, [], [1])
        self.assertIs(self.let_by([[]], machine, ("always", 1)), True)
        self.assertIs(self.let_by([[], []], machine, ("always", 1)), False)
        self.assertIs(self.let_by([[(1,)]], machine, ("always", 1)), False)
        machine = Machine(1, 0, [("or", 1, -1)], [1])
        self.assertIs(self.let_by([[], [], []], machine, ("always", 2)), True)
        self.assertIs(self.let_by([[], [(1,)]], machine, ("always", 2)), False)

    def test_no_layer(self):
        self.assertIs(self.let_by([]), False)
        self.assertIs(self.let_by(()), False)

    def test_several_layers(self):
        starts = [(1,), (-2,), (-3,)]
        self.assertIs(self.let_by([starts, [(-3,)]]), True)
        self.assertIs(self.let_by([starts, []]), True)
        self.assertIs(self.let_by([starts, [(-3,), (-3,)]]), True)
        self.assertIs(self.let_by([starts, [(-3,), (1, -3), (-2, -3)]]), True)
        self.assertIs(self.let_by([starts, [(-3,), (-1, -3)], [(-1, -3)]]), True)
        self.assertIs(self.let_by([starts, [(-3,), (-1, -3)], []]), True)
        # By the clauses of number 2 the third box can be: so it doesn't bar harm, and must be the last.
        self.assertIs(self.let_by([starts, [(-3,), (-1, -3)], [(-1, -3)], []]), False)

    def test_starts_in_another_order(self):
        self.assertIs(self.let_by([[(-2,), (1,), (-3,)], [(-3,)]]), False)

    def test_a_clause_that_was_not_in_the_layer_ahead(self):
        machine = Machine(2, 0, [], [1, 2], starts=[-1, -2])
        starts = [(-1,), (-2,)]
        wish = ("always", -1)
        self.assertIs(self.let_by([starts, [(-1,), (-2,)], [(-1,), (-2,)]], machine, wish), True)
        self.assertIs(self.let_by([starts, [(-1,)], [(-1,), (-1, -2)]], machine, wish), False)
        self.assertIs(self.let_by([starts, [(-1,), (-1, -2)], [(-1,), (-1, -2)]], machine, wish), True)
        # In number 1 such a clause may stand, as it may where it is among the starts.
        self.assertIs(self.let_by([starts, [(-1,), (-1, -2)]], machine, wish), True)
        self.assertIs(self.let_by([starts, [(-1,), (-1, -2)], [(-1,)], [(-1, -2), (-1,)]], machine, wish), False)

    def test_a_clause_that_does_not_hold_behind_a_beat(self):
        machine = Machine(2, 0, [], [1, 1], starts=[-1, -2])
        wish = ("always", -1)
        starts = [(-1,), (-2,)]
        self.assertIs(self.let_by([starts, [(-1,), (-2,)], [(-2,), (-1,)]], machine, wish), True)
        self.assertIs(self.let_by([starts, [(-2,)]], machine, wish), True)
        self.assertIs(self.let_by([starts, [(-2,)], [(-2,)]], machine, ("always", -2)), False)
        self.assertIs(self.let_by([starts, [(-2,)], []], machine, ("always", -2)), True)
        self.assertIs(self.let_by([[(1,), (-2,), (-3,)], [(-2,)]]), False)

    def test_a_clause_that_does_not_hold_at_a_beginning(self):
        self.assertIs(self.let_by([[(1,), (-2,), (-3,)], [(2,)]]), False)
        self.assertIs(self.let_by([[(1,), (-2,), (-3,)], [(-3,), (-1, 2)]]), False)
        machine = Machine(2, 0, [("or", 1, -1)], [3, 1], starts=[-1])
        self.assertIs(self.let_by([[(-1,)], [(1,)]], machine, ("always", 3)), False)
        self.assertIs(self.let_by([[(-1,)], []], machine, ("always", 3)), True)
        self.assertIs(self.let_by([[(-1,)], [()]], machine, ("always", 3)), False)

    def test_a_layer_that_does_not_bar_harm(self):
        starts = [(1,), (-2,), (-3,)]
        self.assertIs(self.let_by([starts, [], []]), False)
        self.assertIs(self.let_by([starts, [(-1, -3)], []]), False)
        self.assertIs(self.let_by([starts, [(-3,)], []]), True)
        self.assertIs(self.let_by([starts, []], wish=("always", 3)), False)
        self.assertIs(self.let_by([starts, []], wish=("always", -1)), False)
        # The last one need not.
        self.assertIs(self.let_by([starts, []]), True)
        self.assertIs(self.let_by([starts], wish=("always", -1)), True)

    def test_of_anything(self):
        starts = [(1,), (-2,), (-3,)]
        for thing in [*STRANGE, 0, 1, True, False, (starts,), tuple(starts), starts, [tuple(starts)], {0: starts},
                      [starts, None], [starts, ()], [starts, ((-3,),)], [starts, [[-3]]], [starts, [(-4,)]],
                      [starts, [(4,)]], [starts, [(0,)]], [starts, [(-3, -3)]], [starts, [(-3, -2)]],
                      [starts, [(True,)]], [[(True,), (-2,), (-3,)]], [[(1.0,), (-2,), (-3,)]], [starts, [Odd()]],
                      [starts, "layer"], [starts, {}], [starts, [(-3,)], 0], [starts, [None]], [starts, [(None,)]],
                      [starts, {(-3,)}], [[(1,), (-2,), [-3]]], [starts, [(-3,)], ((-3,),)], [[starts]]]:
            self.assertIs(self.let_by(thing), False, thing)
        self.assertIs(lets_layers(machine=example(), wish=WISH, thing=[starts]), True)

    def test_by_going_through(self):
        chance = random.Random(41)
        let_by = 0
        for machine in small_machines(42, 400):
            walked = Walked(machine)
            starts = [(start,) for start in machine.starts()]
            begun = [clause for clause in all_clauses(machine.boxes()) if set(clause) & set(machine.starts())]
            for sign in chance.sample(all_signs(machine), min(4, len(machine))):
                for number in range(10):
                    layers = [list(starts)]
                    pool = begun
                    for layer in range(chance.randint(1, 3)):
                        # Mostly such as are as told but for one thing, so that each condition matters.
                        grown = [clause for clause in pool if all(
                            holds_by(clause, walked.behind(stand, word))
                            for stand in walked.held(layers[-1]) for word in walked.words)]
                        take = grown if chance.random() < 0.9 else begun
                        layers.append(chance.sample(take, chance.randint(len(take) // 2, len(take))))
                        pool = layers[-1] if chance.random() < 0.9 else begun
                    if chance.random() < 0.05:
                        layers[0].reverse()
                    due = lets_by_hand(walked, sign, layers)
                    let_by += due
                    self.assertIs(self.let_by(layers, machine, ("always", sign)), due, (sign, layers))
        self.assertGreater(let_by, 1000)

    def test_no_wish(self):
        for wish in NO_ALWAYS:
            for thing in ([[(-1,), (-2,)]], None, []):
                with self.assertRaises(NoWish) as caught:
                    lets_layers(four_things(), wish, thing)
                self.assertIsInstance(caught.exception, KeptError)

    def test_what_is_handed_in_stays(self):
        layers = [[(1,), (-2,), (-3,)], [(-3,)]]
        machine = example()
        for again in range(2):
            self.assertIs(lets_layers(machine, WISH, layers), True)
            self.assertEqual(layers, [[(1,), (-2,), (-3,)], [(-3,)]])
        self.assertEqual(machine, example())


class TestGoingDeeper(LayersCase):
    def check_step(self, made, walked, sign, times):
        """That behind so many times deeper without a paper all is as told."""
        machine, wish = walked.machine, ("always", sign)
        self.assertEqual(len(made), times)
        self.assertIsNone(made.paper())
        layers = made.layers()
        self.assertEqual(len(layers), times + 1)
        self.assertIs(self.let_by(layers, machine, wish), True)
        self.assertIs(lets_by_hand(walked, sign, layers), True)
        least = walked.harm(sign)
        self.assertTrue(least is None or least > times)
        beats = walked.come_to()
        for number, layer in enumerate(layers):
            for stand in beats:
                if beats[stand] <= number:
                    self.assertTrue(all(holds_by(clause, stand) for clause in layer))

    def check_paper(self, made, walked, sign, times, paper):
        """That behind so many times deeper the paper is as told, and all stays."""
        machine, wish = walked.machine, ("always", sign)
        least = walked.harm(sign)
        self.assertIs(lets_paper(machine, wish, paper), True)
        self.assertIs(type(paper), tuple)
        if least is None:
            self.assertEqual(paper[0], "kept")
            self.assertIsNone(walked.fails(sign, paper[1]))
        else:
            self.assertEqual(paper[0], "run")
            self.assertEqual(len(paper[1][1]), times)
            self.assertEqual(times, least)
        layers = made.layers()
        self.assertIs(self.let_by(layers, machine, wish), True)
        self.assertIs(lets_by_hand(walked, sign, layers), True)
        for again in range(2):
            self.assertEqual(made.deeper(), paper)
            self.assertEqual(made.paper(), paper)
            self.assertEqual(made.layers(), layers)
            self.assertEqual(len(made), times)

    def check(self, machine, sign):
        walked = Walked(machine)
        made = Layers(machine, ("always", sign))
        self.assertEqual(made.layers(), [[(start,) for start in machine.starts()]])
        self.check_step(made, walked, sign, 0)
        times = 0
        while True:
            times += 1
            paper = made.deeper()
            if paper is not None:
                break
            self.check_step(made, walked, sign, times)
        self.check_paper(made, walked, sign, times, paper)
        return paper[0], times

    def test_the_example(self):
        self.assertEqual(self.check(example(), -3), ("run", 3))
        self.assertEqual(self.check(example(), -2), ("run", 2))
        self.assertEqual(self.check(example(), -1), ("run", 1))
        self.assertEqual(self.check(example(), 1), ("run", 2))
        self.assertEqual(self.check(example(), -4)[0], "kept")

    def test_the_starts_are_kept(self):
        machine = Machine(2, 0, [], [1, 2], starts=[-1, 2])
        self.assertEqual(self.check(machine, -1), ("kept", 1))
        made = Layers(machine, ("always", 2))
        self.assertEqual(made.deeper()[:2], ("kept", [(-1,), (2,)]))

    def test_no_starts(self):
        self.assertEqual(self.check(Machine(1, 0, [("or", 1, -1)], [1]), 2), ("kept", 1))
        self.assertEqual(self.check(Machine(1, 0, [("or", 1, -1)], [1]), -2), ("run", 1))
        self.assertEqual(self.check(Machine(1, 0, [], [1]), 1), ("run", 1))

    def test_small_machines(self):
        told = []
        for machine in small_machines(43, 150):
            for sign in all_signs(machine)[:: 1 + len(machine) // 4]:
                told.append(self.check(machine, sign))
        words = [word for word, times in told]
        self.assertGreater(words.count("kept"), 60)
        self.assertGreater(words.count("run"), 200)
        self.assertGreater(max(times for word, times in told), 2)

    def test_four_and_five_boxes(self):
        chance = random.Random(44)
        for number in range(40):
            machine = random_machine(chance, chance.randint(4, 5), chance.randint(0, 2), 8, starts=4)
            for sign in chance.sample(all_signs(machine), 4):
                self.check(machine, sign)

    def test_counters(self):
        for bits in (1, 2, 3, 4):
            machine, full = counter(bits)
            self.assertEqual(self.check(machine, -full), ("run", 2 ** bits))
        # Where it begins with the lowest box and turns it about by no beat, it never comes to count.
        machine = Machine(3, 0, [("and", 1, 2)], [1, 4, 2], starts=[-1, 2, -3])
        self.assertEqual(self.check(machine, -4)[0], "kept")

    def test_an_even_number_of_boxes(self):
        for boxes in (2, 3, 4, 5):
            machine, sign = even(boxes)
            self.assertEqual(self.check(machine, sign)[0], "kept")
            self.assertEqual(self.check(machine, -sign), ("run", 1))


class TestLayersObject(LayersCase):
    def test_no_wish(self):
        for wish in NO_ALWAYS:
            with self.assertRaises(NoWish) as caught:
                Layers(four_things(), wish)
            self.assertIsInstance(caught.exception, KeptError)
        self.assertEqual(len(Layers(wish=WISH, machine=example())), 0)

    def test_alike(self):
        one, other = Layers(example(), WISH), Layers(example(), WISH)
        self.assertIs(one == other, True)
        self.assertIs(one != other, False)
        one.deeper()
        self.assertIs(one == other, False)
        self.assertIs(one != other, True)
        other.deeper()
        self.assertIs(one == other, True)
        for again in range(5):
            one.deeper()
        other.deeper()
        self.assertEqual((len(one), len(other)), (3, 2))
        self.assertIs(one == other, False)
        other.deeper()
        self.assertIs(one == other, True)
        other.deeper()
        self.assertIs(one == other, True)

    def test_unlike(self):
        self.assertIs(Layers(example(), WISH) == Layers(example(), ("always", 3)), False)
        self.assertIs(Layers(example(), WISH) == Layers(example(), ("always", -2)), False)
        other = Machine(3, 0, [("and", 1, -1)], [4, 1, 2], starts=[1, -3, -2])
        self.assertIs(Layers(example(), WISH) == Layers(other, WISH), False)
        made = Layers(example(), WISH)
        for thing in [*STRANGE, 0, True, [], (), example(), WISH, (example(), WISH), made.layers(), made.paper()]:
            self.assertIs(made == thing, False)
            self.assertIs(made != thing, True)

    def test_two_go_on_apart(self):
        machine, full = counter(3)
        one, other = Layers(machine, ("always", -full)), Layers(machine, ("always", -full))
        for times in range(5):
            one.deeper()
        self.assertEqual((len(one), len(other)), (5, 0))
        self.assertEqual(len(other.layers()), 1)
        third = Layers(machine, ("always", -full))
        for times in range(8):
            self.assertEqual(other.deeper(), third.deeper())
            self.assertEqual(other.layers(), third.layers())
        self.assertIs(lets_paper(machine, ("always", -full), other.paper()), True)
        self.assertIsNone(one.paper())
        self.assertEqual(len(one), 5)

    def test_asking_changes_nothing(self):
        for machine in small_machines(45, 40):
            for sign in all_signs(machine)[::3]:
                asked, quiet = Layers(machine, ("always", sign)), Layers(machine, ("always", sign))
                while quiet.deeper() is None:
                    pass
                while asked.paper() is None:
                    for again in range(2):
                        self.assertEqual(asked.layers(), asked.layers())
                        self.assertEqual(len(asked), len(asked))
                        self.assertIs(asked == quiet, len(asked) == len(quiet))
                    asked.deeper()
                self.assertEqual((asked.paper(), asked.layers()), (quiet.paper(), quiet.layers()))

    def test_told_lists_are_the_askers_own(self):
        for machine, sign in [(counter(3)[0], -counter(3)[1]), even(3)]:
            made, quiet = Layers(machine, ("always", sign)), Layers(machine, ("always", sign))
            while quiet.paper() is None:
                for layer in made.layers():
                    layer.append((1,))
                made.layers().clear()
                self.spoil(made.deeper())
                self.spoil(made.paper())
                quiet.deeper()
                self.assertEqual(made.paper(), quiet.paper())
                self.assertEqual(made.layers(), quiet.layers())

    def spoil(self, paper):
        if paper is None:
            return
        if paper[0] == "run":
            paper[1][1].clear()
            return
        for part in [*paper[2], *paper[1:]]:
            part.clear()

    def test_the_machine_stays(self):
        machine = example()
        made = Layers(machine, WISH)
        while made.deeper() is None:
            pass
        self.assertEqual(machine, example())


class TestLargeMachines(LayersCase):
    def gone(self, machine, sign, seconds=60):
        wish = ("always", sign)
        with deadline(seconds):
            made = Layers(machine, wish)
            while made.deeper() is None:
                pass
            paper = made.paper()
            self.assertIs(lets_paper(machine, wish, paper), True)
            self.assertIs(self.let_by(made.layers(), machine, wish), True)
        if paper[0] == "run":
            self.assertEqual(len(paper[1][1]), len(made))
        return paper

    def test_ten_boxes_four_inputs_and_twenty_four_gates(self):
        chance = random.Random(46)
        words = []
        for number in range(8):
            machine = random_machine(chance, 10, 4, 24, starts=chance.choice((6, 9, 10)), promises=number % 3)
            walked = Walked(machine)
            for sign in chance.sample(all_signs(machine), 6):
                paper = self.gone(machine, sign)
                least = walked.harm(sign)
                self.assertEqual(paper[0], "kept" if least is None else "run")
                if least is not None:
                    self.assertEqual(len(paper[1][1]), least)
                words.append(paper[0])
        self.assertGreater(words.count("kept"), 2)
        self.assertGreater(words.count("run"), 2)

    def test_a_counter_of_ten_boxes(self):
        machine, full = counter(10)
        self.assertEqual(len(self.gone(machine, -full)[1][1]), 1024)

    def test_an_even_number_of_ten_boxes(self):
        machine, sign = even(10)
        self.assertEqual(len(self.gone(machine, sign)[1]), 512)


if __name__ == "__main__":
    unittest.main()
