"""Promise 18: papers of what must come again."""

import copy
import random
import unittest

from keptclauses.errors import KeptError, NoWish
from keptclauses.machines import Machine
from keptclauses.ranks import lets_again
from tests.small import Walked, all_signs, beat_list, behind, small_machines, solver_paper, solver_rows
from tests.tools import NO_NUMBERS, STRANGE, Odd, all_clauses

NO, YES = (False,), (True,)


def example():
    """Box 1 is each second time, as long as box 2, which stays as it is, isn't; the gate is thing 3."""
    return Machine(2, 0, [("and", -1, -2)], [3, 2], starts=[-1, -2])


# The beat's clauses are (-1, -3), (-2, -3), (1, 2, 3), (3, -4), (-3, 4), (2, -5), (-2, 5).
WISH = ("again", 1)
PARTS = {
    "word": "ranks",
    "clauses": [(-2,)],
    "beats": [[("told", 6), ("told", 0), ("met", 0, 1, 2)]],
    "ranks": [[(1,)], []],
    "falls": [
        [[("told", 1), ("told", 9), ("met", 0, 1, 1)]],
        [[("told", 3), ("told", 0), ("met", 0, 1, 2), ("told", 8), ("met", 2, 3, 1), ("told", 5), ("met", 4, 5, 3)]],
    ],
    "top": [],
}
# The same rows for a list with one clause more in the rank, behind the kept ones.
LAST = [("told", 4), ("told", 0), ("met", 0, 1, 2), ("told", 9), ("met", 2, 3, 1), ("told", 6), ("met", 4, 5, 3)]

# For the machine above, none of these is a wish of what must come again.
NO_WISHES = [
    *STRANGE, 0, 1, True, False, [], (), ("again",), ("always", 1), ("behind", 1, 2), ("again", 1, 2), ["again", 1],
    ("Again", 1), ("again", 0), ("again", 4), ("again", -4), ("again", 61), ("again", 10 ** 40), ("again ", 1),
    ("again", (1,)), (Odd(), 1), (b"again", 1), ("always", 4), *[("again", sign) for sign in NO_NUMBERS],
]


def bent(**changed):
    return tuple({**copy.deepcopy(PARTS), **changed}.values())


def solver_ranks(machine, sign, clauses, ranks):
    """A paper of ranks whose rows a Solver writes; where one doesn't follow None stands in their stead."""
    beats = beat_list(machine)
    falls = []
    for number, rank in enumerate(ranks):
        given = [*clauses, *rank, *beats, (-sign,)]
        ends = [behind(machine, clause) for clause in ranks[number - 1]] if number else [()]
        falls.append([solver_rows(machine, given, end) for end in ends])
    top = [solver_rows(machine, clauses + beats, clause) for clause in ranks[-1]]
    return "ranks", clauses, solver_paper(machine, 1, clauses)[2], ranks, falls, top


def are_ranks(walked, sign, clauses, ranks):
    """Whether clauses are kept and ranks fall, by going through all stands."""
    failing = walked.fails(sign, clauses)
    if failing is not None and failing[0] != "bar":
        return False
    held = walked.held(clauses)
    for number, rank in enumerate(ranks):
        for stand in walked.held(clauses + rank):
            for word in walked.words:
                if not walked.says(stand, word, sign):
                    if number == 0 or walked.behind(stand, word) not in walked.held(ranks[number - 1]):
                        return False
    return set(held) <= set(walked.held(ranks[-1]))


class RanksCase(unittest.TestCase):
    def let_by(self, thing, machine=None, wish=WISH):
        told = lets_again(machine or example(), wish, thing)
        self.assertIs(type(told), bool)
        return told


class TestRounds(RanksCase):
    def test_rounds_that_harm(self):
        machine = Machine(1, 1, [("or", 1, 2)], [3], starts=[-1])
        for ring, due in [
            ((NO, [NO], 0), True), ((NO, [NO, NO], 1), True), ((NO, [YES], 0), False), ((NO, [NO, YES], 1), False),
            ((NO, [YES, NO], 1), False), ((NO, [NO] * 2000, 1999), True), ((NO, [NO] * 2001, 1999), False),
        ]:
            self.assertIs(self.let_by(("round", ring), machine, ("again", 1)), due, ring)
        self.assertIs(self.let_by(("round", (NO, [YES, NO], 1)), machine, ("again", 2)), True)
        self.assertIs(self.let_by(("round", (NO, [YES, YES], 1)), machine, ("again", 2)), False)

    def test_what_is_no_round(self):
        machine = Machine(1, 1, [("or", 1, 2)], [3], starts=[-1])
        wish = ("again", 1)
        ring = (NO, [NO], 0)
        self.assertIs(self.let_by(("round", ring), machine, wish), True)
        for thing in [*STRANGE, 0, True, (NO, [NO]), (NO, [NO], 1), (NO, [NO], -1), (NO, [NO], True), (NO, [NO], None),
                      (NO, [], 0), (YES, [NO], 0), (NO, (NO,), 0), [NO, [NO], 0], (NO, [NO], 0, 0), (NO, [(False, False)], 0)]:
            self.assertIs(self.let_by(("round", thing), machine, wish), False, thing)
        for thing in [ring, ["round", ring], ("round",), ("round", ring, None), ("Round", ring), ("run", ring), ("ranks", ring),
                      (b"round", ring), (None, ring), (("round",), ring), (["round"], ring), (Odd(), ring), ("round", *ring),
                      ("run", (NO, [NO])), "round"]:
            self.assertIs(self.let_by(thing, machine, wish), False, thing)


class TestRanksByHand(RanksCase):
    def test_it_is_let_by(self):
        self.assertIs(self.let_by(bent()), True)
        self.assertIs(lets_again(machine=example(), wish=WISH, thing=bent()), True)

    def test_one_rank(self):
        machine = Machine(1, 0, [("or", 1, -1)], [1])
        # The gate's clauses are (-1, 2), (1, 2); behind those of the beat stands (-2,).
        rows = [("told", 1), ("told", 0), ("met", 0, 1, 1), ("told", 4), ("met", 2, 3, 2)]
        self.assertIs(self.let_by(("ranks", [], [], [[]], [[rows]], []), machine, ("again", 2)), True)
        self.assertIs(self.let_by(("ranks", [], [], [[]], [[rows]], []), machine, ("again", -2)), False)
        self.assertIs(self.let_by(("ranks", [], [], [], [], []), machine, ("again", 2)), False)
        self.assertIs(self.let_by(("ranks", [], [], [], [[rows]], []), machine, ("again", 2)), False)
        self.assertIs(self.let_by(("ranks", [], [], [[]], [], []), machine, ("again", 2)), False)
        self.assertIs(self.let_by(("ranks", [], [], [[]], [[]], []), machine, ("again", 2)), False)
        self.assertIs(self.let_by(("ranks", [], [], [[]], [[rows, rows]], []), machine, ("again", 2)), False)
        self.assertIs(self.let_by(("ranks", [], [], [[]], [rows], []), machine, ("again", 2)), False)

    def test_a_last_rank_with_clauses(self):
        ranks = [[(1,)], [(-2,)]]
        falls = [PARTS["falls"][0], [LAST]]
        self.assertIs(self.let_by(bent(ranks=ranks, falls=falls, top=[[("told", 0)]])), True)
        for top in ([], [[]], [[("told", 0)], [("told", 0)]], [[("told", 1)]], [[("told", 5)]], [None], ([("told", 0)],),
                    [(("told", 0),)], [[("told", 8)]], [[["told", 0]]], [("told", 0)]):
            self.assertIs(self.let_by(bent(ranks=ranks, falls=falls, top=top)), False, top)

    def test_more_ranks_than_are_needed(self):
        falls = [*PARTS["falls"], []]
        self.assertIs(self.let_by(bent(ranks=[[(1,)], [], []], falls=falls)), True)
        self.assertIs(self.let_by(bent(ranks=[[(1,)], [], []], falls=[*PARTS["falls"], [[]]])), False)

    def test_a_rank_that_holds_nowhere(self):
        # From it nothing is lacked, but nothing leads there either.
        rows = [[("told", 1)]]
        self.assertIs(self.let_by(bent(ranks=[[()], []], falls=[rows, PARTS["falls"][1]])), False)


class TestRanksBent(RanksCase):
    def refused(self, thing):
        self.assertIs(self.let_by(thing), False, thing)

    def test_the_whole(self):
        paper = bent()
        for thing in [list(paper), paper[:5], (*paper, []), ("Ranks", *paper[1:]), ("kept", *paper[1:]), ("round", *paper[1:]),
                      (None, *paper[1:]), (b"ranks", *paper[1:]), (Odd(), *paper[1:]), (["ranks"], *paper[1:]), paper[1:],
                      ("ranks", paper[1:]), ("ranks", paper), (paper,), [paper], paper[::-1], ("kept", *paper[1:4]),
                      *STRANGE, 0, 1, True, False, (), []]:
            self.refused(thing)

    def test_each_part_of_any_kind(self):
        for part in ("clauses", "beats", "ranks", "falls", "top"):
            for thing in [*STRANGE, 0, 1, True, False, (), []]:
                if part == "top" and thing == []:
                    continue
                self.refused(bent(**{part: thing}))

    def test_tuples_for_lists_and_lists_for_tuples(self):
        for part in ("clauses", "beats", "ranks", "falls", "top"):
            self.refused(bent(**{part: tuple(PARTS[part])}))
        self.refused(bent(clauses=[[-2]]))
        self.refused(bent(beats=[tuple(PARTS["beats"][0])]))
        self.refused(bent(ranks=[((1,),), []]))
        self.refused(bent(ranks=[[(1,)], ()]))
        self.refused(bent(ranks=[[[1]], []]))
        for number in range(2):
            falls = copy.deepcopy(PARTS["falls"])
            falls[number] = tuple(falls[number])
            self.refused(bent(falls=falls))
            falls[number] = [tuple(falls[number][0])]
            self.refused(bent(falls=falls))
            falls[number] = [[list(row) for row in falls[number][0]]]
            self.refused(bent(falls=falls))

    def test_kept_clauses(self):
        rows = PARTS["beats"][0]
        self.refused(bent(beats=[]))
        self.refused(bent(beats=[rows, rows]))
        self.refused(bent(beats=[rows[:2]]))
        self.refused(bent(beats=[[("told", 0)]]))
        self.refused(bent(clauses=[]))
        self.refused(bent(clauses=[(2,)]))
        self.refused(bent(clauses=[(-3,)]))
        self.refused(bent(clauses=[(-2,), (-2,)]))
        for clause in [None, -2, "(-2,)", (0,), (3,), (True,), (-2, -2), (2, -2), (-2, 1), (-2.0,)]:
            self.refused(bent(clauses=[clause]))

    def test_clauses_without_a_sign_of_the_starts(self):
        for starts, due in [([-1, -2], True), ([-2], True), ([-1], False), ([2], False), ([], False)]:
            machine = Machine(2, 0, [("and", -1, -2)], [3, 2], starts=starts)
            self.assertIs(self.let_by(bent(), machine), due, starts)

    def test_clauses_of_ranks_need_none_of_the_starts(self):
        self.assertNotIn(PARTS["ranks"][0][0][0], example().starts())

    def test_ranks_that_are_none(self):
        for clause in [None, 1, "1", (0,), (3,), (-3,), (True,), (1, 1), (1, -1), (2, 1), (1.0,), (None,), {1}, Odd()]:
            self.refused(bent(ranks=[[clause], []]))
            self.refused(bent(ranks=[[(1,)], [clause]], top=[[("told", 0)]]))
        for rank in [*STRANGE, 0, 1, True, False, ()]:
            self.refused(bent(ranks=[rank, []]))
            self.refused(bent(ranks=[[(1,)], rank]))
        self.refused(bent(ranks=[(1,)]))
        self.refused(bent(ranks=[[(1,)]]))
        self.refused(bent(ranks=[[]]))
        self.refused(bent(ranks=[[], [(1,)]]))
        self.refused(bent(ranks=[[], []]))
        self.refused(bent(ranks=[[(-1,)], []]))
        self.refused(bent(ranks=[[(1,)], [], []]))
        self.refused(bent(ranks=[[(1,), (1,)], []]))

    def test_falls_too_few_and_too_many(self):
        first, second = PARTS["falls"]
        for falls in [[first], [second], [], [first, second, []], [first, second, second], [first, first], [second, first],
                      [[], second], [first, []], [first + first, second], [first, second + second], [first, second + [[]]],
                      [first[0], second], [first, second[0]], [[first], second], [first, [second]], [first, None],
                      [None, second], [first, [None]], [[None], second], [[[]], second], [first, [[]]]]:
            self.refused(bent(falls=falls))

    def test_rows_that_end_elsewhere(self):
        first, second = PARTS["falls"]
        for number in range(1, 3):
            self.refused(bent(falls=[[first[0][:number]], second]))
        for number in range(1, len(second[0])):
            self.refused(bent(falls=[first, [second[0][:number]]]))
        self.refused(bent(falls=[[first[0] + [("told", 0)]], second]))
        self.refused(bent(falls=[first, [second[0] + [("told", 0)]]]))
        self.refused(bent(falls=[first, [[("told", 8)]]]))

    def test_rows_that_are_none(self):
        first, second = PARTS["falls"]
        for row in [("told", 10), ("told", -1), ("told", True), ("told",), ("met", 0, 1, 2), ("met", 1, 0, 1), None, (), []]:
            self.refused(bent(falls=[[[row, *first[0]]], second]))
            self.refused(bent(falls=[[[*first[0], row]], second]))
            self.refused(bent(falls=[first, [[*second[0], row]]]))
        # The list of a rank ends with the sign turned about; that of the top has neither this nor ranks.
        self.refused(bent(ranks=[[(1,)], [(-2,)]], falls=[first, [LAST]], top=[[("told", 8), ("told", 0)]]))
        self.assertIs(self.let_by(bent(falls=[[[("told", 9), ("told", 1), ("met", 1, 0, 1)]], second])), True)
        self.assertIs(self.let_by(bent(falls=[first, [[("told", 8), *self.moved(second[0])]]])), True)
        self.refused(bent(falls=[first, [[("told", 9), *self.moved(second[0])]]]))

    def moved(self, rows):
        """The rows behind one more."""
        return [(row[0], row[1] + 1, row[2] + 1, row[3]) if row[0] == "met" else row for row in rows]

    def test_another_wish_and_another_machine(self):
        for sign in (-1, 2, -2, 3, -3):
            self.assertIs(self.let_by(bent(), wish=("again", sign)), False, sign)
        self.assertIs(self.let_by(bent(), Machine(2, 0, [("or", -1, -2)], [3, 2], starts=[-1, -2])), False)
        self.assertIs(self.let_by(bent(), Machine(2, 0, [("and", -1, -2)], [2, 3], starts=[-1, -2])), False)


class TestSolverRows(RanksCase):
    """Of ranks with rows by a Solver a paper comes just where the clauses are kept and the ranks fall."""

    def ranks_by_chance(self, chance, walked, sign, clauses):
        """Ranks as they are due, by one clause for each stand, and such as are bent a bit."""
        ranks = []
        shorter = [stand for stand in walked.stands if all(walked.says(stand, word, sign) for word in walked.words)]
        held = set(walked.held(clauses))
        for number in range(len(walked.stands) + 1):
            out = [stand for stand in walked.stands if stand not in shorter and (stand in held or chance.random() < 0.5)]
            ranks.append([tuple(-box if truth else box for box, truth in enumerate(stand, start=1)) for stand in out])
            if held <= set(shorter):
                break
            shorter = [stand for stand in walked.stands if all(
                walked.says(stand, word, sign) or walked.behind(stand, word) in shorter for word in walked.words)]
        if chance.random() < 0.4:
            rank = chance.choice(ranks)
            if rank and chance.random() < 0.5:
                rank.pop(chance.randrange(len(rank)))
            else:
                rank.append(chance.choice(all_clauses(walked.machine.boxes())))
        if chance.random() < 0.1:
            ranks.append([])
        return ranks

    def test_by_going_through(self):
        chance = random.Random(91)
        let_by = told = harmed = 0
        for machine in small_machines(92, 250):
            walked = Walked(machine)
            reached = walked.come_to()
            begun = [one for one in all_clauses(machine.boxes()) if set(one) & set(machine.starts())]
            for sign in chance.sample(all_signs(machine), min(4, len(machine))):
                lists = [[], [(start,) for start in machine.starts()], chance.choices(begun, k=2) if begun else []]
                for clauses in lists:
                    ranks = self.ranks_by_chance(chance, walked, sign, clauses)
                    due = are_ranks(walked, sign, clauses, ranks)
                    paper = solver_ranks(machine, sign, clauses, ranks)
                    self.assertIs(self.let_by(paper, machine, ("again", sign)), due, (sign, clauses, ranks))
                    if due:
                        longest = walked.lacks(sign, reached)
                        self.assertIsNotNone(longest)
                        self.assertLess(longest, len(ranks))
                    let_by += due
                    told += not due
                    harmed += walked.lacks(sign, reached) is None
        self.assertGreater(let_by, 300)
        self.assertGreater(told, 300)
        self.assertGreater(harmed, 300)

    def test_bent_by_chance(self):
        """Whatever is let by, fewer beats in a row than there are ranks lack the sign."""
        chance = random.Random(93)
        let_by = 0
        for machine in small_machines(94, 120):
            walked = Walked(machine)
            for sign in all_signs(machine):
                clauses = [(start,) for start in machine.starts()]
                ranks = self.ranks_by_chance(chance, walked, sign, clauses)
                if not are_ranks(walked, sign, clauses, ranks):
                    continue
                paper = solver_ranks(machine, sign, clauses, ranks)
                for number in range(6):
                    other = copy.deepcopy(paper)
                    rows = chance.choice([*other[2], *other[5], *[rows for fall in other[4] for rows in fall]])
                    place = chance.randrange(len(rows))
                    row = list(rows[place])
                    row[chance.randrange(1, len(row))] += chance.choice((-1, 1))
                    rows[place] = tuple(row)
                    if self.let_by(other, machine, ("again", sign)):
                        let_by += 1
                        self.assertTrue(are_ranks(walked, sign, other[1], other[3]))
        self.assertGreater(let_by, 5)


class TestRefusals(RanksCase):
    def test_no_wish(self):
        for wish in NO_WISHES:
            for thing in (bent(), ("round", ((False, False), [()], 0)), None, ()):
                with self.assertRaises(NoWish) as caught:
                    lets_again(example(), wish, thing)
                self.assertIsInstance(caught.exception, KeptError)

    def test_what_is_handed_in_stays(self):
        paper = bent()
        machine = example()
        for again in range(2):
            self.assertIs(lets_again(machine, WISH, paper), True)
            self.assertEqual(paper, bent())
        self.assertEqual(machine, example())


if __name__ == "__main__":
    unittest.main()
