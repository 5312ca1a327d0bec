"""Promise 20: papers for wishes of all three kinds."""

import copy
import random
import unittest

from keptclauses.again import again
from keptclauses.always import always
from keptclauses.answers import answer, lets_answer
from keptclauses.errors import NoWish, TooMany
from keptclauses.machines import Machine
from keptclauses.papers import lets_paper
from keptclauses.ranks import lets_again
from keptclauses.watching import watched
from tests.small import Walked, all_signs, counter, random_machine, small_machines
from tests.test_ranks import are_ranks
from tests.test_watching import example, harmed_by_hand, pairs, sized
from tests.tools import NO_NUMBERS, STRANGE, Odd, deadline

NO, YES = (False,), (True,)

# For a machine of four things, none of these is a wish of any kind.
NO_WISHES = [
    *STRANGE, 0, 1, True, [], (), ("always",), ("again",), ("behind",), ("behind", 1), ("behind", 1, 2, 3), ("always", 1, 2),
    ("again", 1, 2), ("Always", 1), ("ever", 1), ["behind", 1, 2], ("behind", 0, 1), ("behind", 1, 0), ("behind", 5, 1),
    ("behind", 1, -5), ("always", 5), ("again", -5), ("behind", (1, 2)), (Odd(), 1), (b"behind", 1, 2), (["always"], 1),
    *[("behind", 1, sign) for sign in NO_NUMBERS], *[("behind", sign, 1) for sign in NO_NUMBERS],
]


def pending_for_ever(walked, one, other):
    """Whether some run without end harms ("behind", one, other), by all stands that are come to, due or not."""
    seen = {(stand, False) for stand in walked.beginnings}
    todo = list(seen)
    ends = {}
    for stand, due in todo:
        ends[stand, due] = []
        for word in walked.words:
            stays = not walked.says(stand, word, other) and (due or walked.says(stand, word, one))
            end = (walked.behind(stand, word), stays)
            if stays:
                ends[stand, due].append(end)
            if end not in seen:
                seen.add(end)
                todo.append(end)
    # Those from which what is due can stay so go on to one of their own.
    left = set(seen)
    while True:
        fewer = {node for node in left if any(end in left for end in ends[node])}
        if fewer == left:
            return bool(left)
        left = fewer


class AnswerCase(unittest.TestCase):
    def check_behind(self, walked, one, other):
        """That the paper is as told, against a going through of all stands that are come to."""
        machine, wish = walked.machine, ("behind", one, other)
        paper = answer(machine, wish)
        self.assertIs(type(paper), tuple)
        self.assertIs(lets_answer(machine, wish, paper), True)
        if pending_for_ever(walked, one, other):
            self.assertEqual((paper[0], len(paper)), ("round", 2))
            self.assertTrue(harmed_by_hand(walked, one, other, paper[1]))
            return paper
        self.assertEqual((paper[0], len(paper)), ("ranks", 6))
        made, sign, moved = watched(machine, one, other)
        through = Walked(made)
        self.assertTrue(are_ranks(through, sign, paper[1], paper[3]))
        self.assertEqual(through.lacks(sign, through.held(paper[1])), len(paper[3]) - 1)
        self.assertIs(lets_again(made, ("again", sign), paper), True)
        return paper


class TestAnswer(AnswerCase):
    def test_behind(self):
        machine = Machine(1, 1, [], [2], starts=[-1])
        self.assertEqual(answer(machine, ("behind", 2, 1))[0], "ranks")
        self.assertEqual(answer(machine, ("behind", 1, 2))[0], "round")
        self.assertEqual(answer(machine=machine, wish=("behind", 1, 1))[0], "ranks")
        for one, other in ((2, 1), (1, 2), (1, 1), (2, -2), (-1, 1)):
            self.check_behind(Walked(machine), one, other)

    def test_small_machines(self):
        chance = random.Random(211)
        words = []
        for machine in small_machines(212, 200):
            walked = Walked(machine)
            for one, other in pairs(chance, machine, 4):
                words.append(self.check_behind(walked, one, other)[0])
        self.assertGreater(words.count("round"), 200)
        self.assertGreater(words.count("ranks"), 200)

    def test_always_and_again_are_told_as_they_are(self):
        for machine in small_machines(213, 60):
            for sign in all_signs(machine):
                for wish, told, lets in ((("always", sign), always, lets_paper), (("again", sign), again, lets_again)):
                    paper = answer(machine, wish)
                    self.assertEqual(paper, told(machine, wish))
                    self.assertIs(lets_answer(machine, wish, paper), True)
                    self.assertIs(lets(machine, wish, paper), True)

    def test_told_twice_alike_and_the_askers_own(self):
        machine = example()
        for wish in [("always", -1), ("always", 1), ("again", 1), ("again", -1), ("behind", 1, 2), ("behind", -1, 1)]:
            paper = answer(machine, wish)
            kept = copy.deepcopy(paper)
            for part in paper[1:]:
                empty(part)
            self.assertEqual(answer(machine, wish), kept)
        self.assertEqual(machine, example())


def empty(thing):
    """Empty all lists in a thing, all the way down."""
    if isinstance(thing, (list, tuple)):
        for part in thing:
            empty(part)
    if isinstance(thing, list):
        thing.clear()


def bent(thing):
    """Things that differ from a paper in one part: left out, twice, exchanged by something else."""
    kind = type(thing)
    if kind not in (list, tuple):
        yield from [other for other in (None, "x", 0, -1, 10 ** 9, True, [], ()) if not (other == thing and type(other) is kind)]
        return
    parts = list(thing)
    yield (list if kind is tuple else tuple)(parts)
    yield kind(parts + [None])
    for number, part in enumerate(parts):
        yield kind(parts[:number] + parts[number + 1:])
        for other in bent(part):
            yield kind(parts[:number] + [other] + parts[number + 1:])


class TestLets(AnswerCase):
    def let_by(self, machine, wish, thing):
        told = lets_answer(machine, wish, thing)
        self.assertIs(type(told), bool)
        return told

    def test_rounds(self):
        machine = Machine(1, 1, [("or", 1, 2)], [3], starts=[-1])
        for wish, ring, due in [
            (("behind", 1, -1), (NO, [YES, NO], 1), True),
            (("behind", 1, -1), (NO, [NO, NO], 1), False),
            (("behind", 1, 2), (NO, [YES, NO, NO], 2), True),
            (("behind", 2, -2), (NO, [YES, NO], 1), False),
            (("behind", -1, 2), (NO, [NO, NO], 0), True),
            (("behind", -1, 2), (NO, [NO, YES, NO], 2), False),
            (("behind", -1, 2), (NO, [NO, YES, YES], 1), False),
        ]:
            self.assertIs(self.let_by(machine, wish, ("round", ring)), due, (wish, ring))
            self.assertIs(harmed_by_hand(Walked(machine), wish[1], wish[2], ring), due)

    def test_a_round_of_the_watched_machine_is_none(self):
        machine = Machine(1, 1, [], [2], starts=[-1])
        wish = ("behind", 1, -1)
        stand, words, back = answer(machine, wish)[1]
        self.assertIs(self.let_by(machine, wish, ("round", (stand, words, back))), True)
        made, sign, moved = watched(machine, 1, -1)
        ring = again(made, ("again", sign))[1]
        self.assertIs(lets_again(made, ("again", sign), ("round", ring)), True)
        self.assertIs(self.let_by(machine, wish, ("round", ring)), False)

    def test_anything(self):
        for wish in [("always", 1), ("always", -1), ("again", 1), ("again", -1), ("behind", 1, 2), ("behind", -1, 1)]:
            for thing in [*STRANGE, 0, 1, True, False, [], (), ("run",), ("kept",), ("round",), ("ranks",), ("run", None),
                          ("kept", [], [], []), ("ranks", [], [], [[]], [[[]]], []), ("round", ()), ("run", ()), "ranks"]:
                self.assertIs(self.let_by(example(), wish, thing), False, (wish, thing))

    def test_papers_bent_in_each_part(self):
        machine = Machine(2, 1, [("and", 1, 3)], [-1, 4], starts=[-1, -2])
        looked = 0
        for wish in [("behind", 2, -1), ("behind", 3, 2), ("behind", 4, 2), ("always", -2), ("again", 1), ("always", -4)]:
            paper = answer(machine, wish)
            walked = Walked(machine)
            for thing in bent(paper):
                looked += 1
                if self.let_by(machine, wish, thing):
                    self.assertTrue(self.still_so(walked, wish, thing), (wish, thing))
        self.assertGreater(looked, 1000)

    def still_so(self, walked, wish, thing):
        """Whether a bent paper that was let by is one, by going through all stands."""
        if wish[0] == "behind" and thing[0] == "round":
            return harmed_by_hand(walked, wish[1], wish[2], thing[1])
        if wish[0] == "behind":
            made, sign, moved = watched(walked.machine, wish[1], wish[2])
            return are_ranks(Walked(made), sign, thing[1], thing[3])
        if thing[0] == "kept":
            return walked.fails(wish[1], thing[1]) is None
        if thing[0] == "ranks":
            return are_ranks(walked, wish[1], thing[1], thing[3])
        return lets_paper(walked.machine, wish, thing) if wish[0] == "always" else lets_again(walked.machine, wish, thing)

    def test_papers_of_near_wishes_and_machines(self):
        """What is let by for another wish or machine is of the same word as the paper of that one."""
        machines = small_machines(214, 25, most_boxes=2)
        papers = []
        for machine in machines:
            signs = all_signs(machine)[:6]
            wishes = [("behind", one, other) for one in signs[:3] for other in signs]
            wishes += [("always", sign) for sign in signs] + [("again", sign) for sign in signs]
            papers.append({wish: answer(machine, wish) for wish in wishes})
        let = 0
        for machine, own in zip(machines, papers):
            for wish, paper in own.items():
                for other in papers[:4] + [own]:
                    for thing in other.values():
                        if self.let_by(machine, wish, thing):
                            let += 1
                            self.assertEqual(thing[0], paper[0])
        self.assertGreater(let, 1000)


class TestRefusals(AnswerCase):
    def test_no_wish_goes_ahead_of_too_many(self):
        for machine in (example(), Machine(10, 0, [], [1] * 10), sized(9, 24)):
            for wish in NO_WISHES:
                if wish in (("behind", 5, 1), ("behind", 1, -5), ("always", 5), ("again", -5)) and len(machine) > 4:
                    continue
                with self.assertRaises(NoWish):
                    answer(machine, wish)
                with self.assertRaises(NoWish):
                    lets_answer(machine, wish, None)

    def test_too_many_of_behind_alone(self):
        for boxes, gates, size in [(10, 0, 10), (9, 23, 23), (2, 24, 24), (10, 24, 10)]:
            machine = sized(boxes, gates)
            for thing in (None, ("round", ((False,) * boxes, [NO], 0)), ("ranks", [], [], [[]], [[[]]], [])):
                with self.assertRaises(TooMany) as caught:
                    lets_answer(machine, ("behind", 1, -1), thing)
                self.assertEqual(caught.exception.size, size)
            with self.assertRaises(TooMany) as caught:
                answer(machine, ("behind", 1, -1))
            self.assertEqual(caught.exception.size, size)
            for wish in (("always", 1), ("again", 1)):
                self.assertIs(lets_answer(machine, wish, answer(machine, wish)), True)


class TestLargeMachines(AnswerCase):
    def test_nine_boxes_and_twenty_two_gates(self):
        chance = random.Random(215)
        words = []
        for number in range(6):
            machine = random_machine(chance, 9, 4, 22, starts=chance.choice((5, 9)), promises=number % 3)
            walked = Walked(machine)
            for one, other in pairs(chance, machine, 3):
                with deadline(60):
                    paper = answer(machine, ("behind", one, other))
                    self.assertIs(lets_answer(machine, ("behind", one, other), paper), True)
                self.assertEqual(paper[0] == "round", pending_for_ever(walked, one, other))
                words.append(paper[0])
        self.assertGreater(words.count("round"), 3)
        self.assertGreater(words.count("ranks"), 3)

    def test_a_counter_of_nine_boxes(self):
        machine, full = counter(9)
        with deadline(60):
            paper = answer(machine, ("behind", 1, full))
            self.assertIs(lets_answer(machine, ("behind", 1, full), paper), True)
        self.assertEqual(paper[0], "ranks")
        # It is due behind the beat at which it counts 1, up to that at which it counts 511: 510 beats.
        self.assertEqual(len(paper[3]), 511)


if __name__ == "__main__":
    unittest.main()
