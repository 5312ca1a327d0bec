"""Promise 10: wishes, and the runs and rounds that harm them."""

import itertools
import unittest

from keptclauses.errors import KeptError, NoWish
from keptclauses.machines import Machine
from keptclauses.wishes import harms, is_wish
from tests.tools import NO_NUMBERS, STRANGE, Odd, all_fillings, says

NO, YES = (False,), (True,)


def free():
    """A box that stays as it is, and two inputs, things 2 and 3, of which anything comes: each round closes."""
    return Machine(1, 2, [], [1], starts=[-1])


def turning():
    """A box that turns about by each beat, an input, thing 2, and their gate, thing 3."""
    return Machine(1, 1, [("and", 1, 2)], [-1], starts=[-1])


# Of a machine with three things, none of these is a wish.
NO_WISHES = [
    *STRANGE, 0, 1, True, False, (), ("always",), ("again",), ("behind",), ("behind", 1), ("always", 1, 2),
    ("again", 1, 2), ("behind", 1, 2, 3), ["always", 1], ["behind", 1, 2], ("Always", 1), ("ALWAYS", 1), ("", 1),
    ("ever", 1), ("ahead", 1, 2), (None, 1), (1, 1), (b"always", 1), (["always"], 1), (("always",), 1), ({}, 1),
    (Odd(), 1), "always", ("always 1",), ("always", 0), ("again", 4), ("always", -4), ("behind", 0, 1),
    ("behind", 1, 0), ("behind", 4, 1), ("behind", 1, -4), ("always", 61), ("always", 10 ** 40), ("always", (1,)),
    ("behind", (1, 2)), ("always", 1, None), ("always ", 1),
]


class TestIsWish(unittest.TestCase):
    def test_wishes(self):
        signs = (-3, -2, -1, 1, 2, 3)
        for sign in signs:
            self.assertIs(is_wish(free(), ("always", sign)), True)
            self.assertIs(is_wish(free(), ("again", sign)), True)
            for other in signs:
                self.assertIs(is_wish(free(), ("behind", sign, other)), True)

    def test_of_anything(self):
        for thing in NO_WISHES:
            self.assertIs(is_wish(free(), thing), False, thing)
        for sign in NO_NUMBERS:
            for thing in [("always", sign), ("again", sign), ("behind", sign, 1), ("behind", 1, sign)]:
                self.assertIs(is_wish(free(), thing), False, thing)
        self.assertIs(is_wish(thing=("always", 1), machine=free()), True)

    def test_signs_of_its_own_things(self):
        for machine in (Machine(1, 0, [], [1]), free(), Machine(2, 1, [("and", 1, 2), ("or", 3, 4)], [1, 2])):
            many = len(machine)
            for sign in (many, -many):
                self.assertIs(is_wish(machine, ("always", sign)), True)
                self.assertIs(is_wish(machine, ("behind", sign, 1)), True)
            for sign in (many + 1, -many - 1):
                self.assertIs(is_wish(machine, ("always", sign)), False)
                self.assertIs(is_wish(machine, ("again", sign)), False)
                self.assertIs(is_wish(machine, ("behind", sign, 1)), False)
                self.assertIs(is_wish(machine, ("behind", 1, sign)), False)


class TestAlways(unittest.TestCase):
    def test_the_sign_fails_at_the_last_beat(self):
        for length in (1, 2, 3):
            for words in itertools.product(all_fillings(2), repeat=length):
                for sign in (-3, -2, -1, 1, 2, 3):
                    due = not says((False, *words[-1]), sign)
                    self.assertIs(harms(free(), ("always", sign), (NO, list(words))), due)

    def test_harm_ahead_of_the_last_beat_is_none(self):
        self.assertIs(harms(free(), ("always", 2), (NO, [(False, False), (True, False)])), False)
        self.assertIs(harms(free(), ("always", 2), (NO, [(True, False), (False, False)])), True)

    def test_boxes_and_gates(self):
        machine = turning()
        self.assertIs(harms(machine, ("always", -1), (NO, [NO])), False)
        self.assertIs(harms(machine, ("always", -1), (NO, [NO, NO])), True)
        self.assertIs(harms(machine, ("always", -3), (NO, [YES])), False)
        self.assertIs(harms(machine, ("always", -3), (NO, [NO, YES])), True)
        self.assertIs(harms(machine, ("always", -3), (NO, [NO, NO])), False)
        self.assertIs(harms(machine, ("always", -3), (NO, [NO, YES, YES])), False)

    def test_a_round_is_no_run(self):
        self.assertIs(harms(free(), ("always", 1), (NO, [(False, False)])), True)
        for back in (0, None, True):
            self.assertIs(harms(free(), ("always", 1), (NO, [(False, False)], back)), False)

    def test_two_thousand_beats(self):
        self.assertIs(harms(free(), ("always", 2), (NO, [(True, True)] * 1999 + [(False, True)])), True)
        self.assertIs(harms(free(), ("always", 2), (NO, [(True, True)] * 2000 + [(False, True)])), False)


def all_rounds(most):
    """All rounds of `free`, of so many beats at most."""
    for length in range(1, most + 1):
        for words in itertools.product(all_fillings(2), repeat=length):
            for back in range(length):
                yield words, back


class TestRounds(unittest.TestCase):
    def test_again(self):
        for words, back in all_rounds(3):
            for sign in (-3, -2, -1, 1, 2, 3):
                due = not any(says((False, *word), sign) for word in words[back:])
                self.assertIs(harms(free(), ("again", sign), (NO, list(words), back)), due, (words, back, sign))

    def test_behind(self):
        for words, back in all_rounds(4):
            for one, other in [(2, 3), (3, 2), (2, -3), (-2, 3), (2, 2), (2, -2)]:
                # Walked on for three more rounds: what stays due to the end of these, though other is lacked, harms.
                beats = [(False, *word) for word in [*words, *(words[back:] * 3)]]
                due = any(
                    says(beat, one) and not any(says(later, other) for later in beats[number:])
                    for number, beat in enumerate(beats[:len(words)])
                )
                told = harms(free(), ("behind", one, other), (NO, list(words), back))
                self.assertIs(told, due, (words, back, one, other))

    def test_due_from_a_beat_ahead_of_the_round(self):
        wish = ("behind", 2, 3)
        none, one, other, both = (False, False), (True, False), (False, True), (True, True)
        for words, back, due in [
            ([one, none], 1, True), ([one, none, none], 2, True), ([one, other, none], 2, False),
            ([one, none, other], 2, False), ([both, none], 1, False), ([other, one, none], 2, True),
            ([one, other, one, none], 3, True), ([none, none], 1, False), ([none, one], 1, True),
            ([one, none, none], 0, True), ([none, both], 1, False), ([none, both], 0, False),
            ([one, other, one], 1, False), ([one, other, one], 2, True), ([one], 0, True), ([both], 0, False),
        ]:
            self.assertIs(harms(free(), wish, (NO, words, back)), due, (words, back))

    def test_a_round_closes_at_the_beat_back(self):
        machine = turning()
        for beats in range(1, 7):
            for back in range(beats):
                due = (beats - back) % 2 == 0
                for wish in [("again", 3), ("again", 2), ("behind", -2, 2), ("behind", -1, 3)]:
                    self.assertIs(harms(machine, wish, (NO, [NO] * beats, back)), due, (beats, back, wish))

    def test_the_stand_at_the_beat_back_and_no_other_one(self):
        """A box that says yes once it was told so, from then on: the round begins behind the beat of that word."""
        machine = Machine(1, 1, [("or", 1, 2)], [3], starts=[-1])
        words = [NO, YES, NO]
        for back, due in [(0, False), (1, False), (2, True)]:
            self.assertIs(harms(machine, ("again", 2), (NO, words, back)), due, back)
            self.assertIs(harms(machine, ("again", -1), (NO, words, back)), due, back)
        self.assertIs(harms(machine, ("again", 2), (NO, [NO, NO], 0)), True)
        self.assertIs(harms(machine, ("again", 2), (NO, [NO, NO], 1)), True)
        self.assertIs(harms(machine, ("again", 1), (NO, [NO, YES], 0)), False)

    def test_other_numbers_back(self):
        words = [(False, False)] * 3
        for wish in [("again", 2), ("behind", -2, 2)]:
            for back in (0, 1, 2):
                self.assertIs(harms(free(), wish, (NO, words, back)), True)
            for back in [*NO_NUMBERS, -1, -2, -3, 3, 4, 10 ** 40]:
                self.assertIs(harms(free(), wish, (NO, words, back)), False, back)

    def test_a_run_is_no_round(self):
        for wish in [("again", 2), ("behind", -2, 2)]:
            self.assertIs(harms(free(), wish, (NO, [(False, False)])), False)
            self.assertIs(harms(free(), wish, (NO, [(False, False)], 0)), True)
            self.assertIs(harms(free(), wish, (NO, [(False, False)], 0, 0)), False)
            self.assertIs(harms(free(), wish, [NO, [(False, False)], 0]), False)
            self.assertIs(harms(free(), wish, ((NO, [(False, False)]), 0)), False)

    def test_two_thousand_beats(self):
        words = [(True, True)] + [(False, False)] * 1999
        self.assertIs(harms(free(), ("again", 2), (NO, words, 1999)), True)
        self.assertIs(harms(free(), ("again", 2), (NO, words, 1)), True)
        self.assertIs(harms(free(), ("again", 2), (NO, words, 0)), False)
        self.assertIs(harms(free(), ("again", 2), (NO, [*words, (False, False)], 1999)), False)


class TestHarmsOfAnything(unittest.TestCase):
    def test_what_is_neither_run_nor_round(self):
        words = [(False, False)]
        things = [
            *STRANGE, 0, 1, True, False, (), (NO,), (YES, words), (YES, words, 0), (NO, []), (NO, [], 0), (NO, None),
            (NO, None, 0), (NO, tuple(words)), (NO, tuple(words), 0), (NO, [(False,)]), (NO, [(False,)], 0),
            (NO, [(0, 0)]), (NO, [(0, 0)], 0), ((0,), words), ((0,), words, 0), (None, words), (None, words, 0),
            [NO, words], [NO, words, 0], (NO, words, 0, 0), (words, NO), (NO, [None], 0), (0, NO, words),
        ]
        for wish in [("always", 1), ("again", 1), ("behind", -1, 1)]:
            for thing in things:
                self.assertIs(harms(free(), wish, thing), False, (wish, thing))

    def test_words_that_may_not_come(self):
        machine = Machine(1, 1, [], [1], starts=[-1], promises=[(2,)])
        for wish, ahead in [(("always", 1), ()), (("again", 1), (0,)), (("behind", -1, 1), (0,))]:
            self.assertIs(harms(machine, wish, (NO, [YES], *ahead)), True)
            self.assertIs(harms(machine, wish, (NO, [NO], *ahead)), False)
            self.assertIs(harms(machine, wish, (YES, [YES], *ahead)), False)

    def test_no_wish_whatever_stands_beside_it(self):
        beside = [(NO, [(False, False)]), (NO, [(False, False)], 0), None, (), [], 0, "run"]
        for wish in NO_WISHES:
            for thing in beside:
                with self.assertRaises(NoWish) as caught:
                    harms(free(), wish, thing)
                self.assertIsInstance(caught.exception, KeptError)
        for sign in NO_NUMBERS:
            for wish in [("always", sign), ("again", sign), ("behind", sign, 1), ("behind", 1, sign)]:
                with self.assertRaises(NoWish):
                    harms(free(), wish, beside[0])

    def test_what_is_handed_in_stays(self):
        words = [(True, False), (False, False)]
        for wish, thing in [(("always", 2), (NO, words)), (("again", 2), (NO, words, 1)), (("behind", 2, 3), (NO, words, 0))]:
            for again in range(2):
                self.assertIs(harms(machine=free(), wish=wish, thing=thing), True)
            self.assertEqual(words, [(True, False), (False, False)])


if __name__ == "__main__":
    unittest.main()
