"""Promise 13: papers of what always holds."""

import copy
import itertools
import random
import unittest

from keptclauses.errors import KeptError, NoWish
from keptclauses.machines import Machine
from keptclauses.papers import lets_paper
from tests.small import Walked, all_signs, beat_list, small_machines, solver_paper
from tests.test_failing import NO_WISHES
from tests.tools import STRANGE, Odd, all_clauses

NO, YES = (False,), (True,)


def example():
    """Two boxes; the first stays once it is, the second is what an input (3) says where the first one is (gate 4)."""
    return Machine(2, 1, [("and", 1, 3)], [1, 4], starts=[-1, -2])


# Behind the clauses of a paper stand those of the beat: (1, -4), (3, -4), (-1, -3, 4), (1, -5), (-1, 5), (4, -6), (-4, 6).
WISH = ("always", -2)
CLAUSES = [(-1,), (-2,)]
FIRST = [("told", 0), ("told", 5), ("met", 1, 0, 1)]
SECOND = [("told", 0), ("told", 2), ("met", 1, 0, 1), ("told", 7), ("met", 3, 2, 4)]
BAR = [("told", 1)]


def by_hand():
    return "kept", list(CLAUSES), [list(FIRST), list(SECOND)], list(BAR)


def bent(**changed):
    parts = dict(zip(("word", "clauses", "beats", "bar"), by_hand()))
    return tuple({**parts, **changed}.values())


class PaperCase(unittest.TestCase):
    def let_by(self, thing, machine=None, wish=WISH):
        told = lets_paper(machine or example(), wish, thing)
        self.assertIs(type(told), bool)
        return told


class TestRuns(PaperCase):
    def test_runs_that_harm(self):
        machine = Machine(1, 1, [("odd", 1, 2)], [3], starts=[-1])
        for words, due in [([NO], False), ([YES], False), ([YES, NO], True), ([YES, YES], True), ([YES, YES, NO], False),
                           ([NO, NO, YES, NO], True), ([NO] * 2000, False), ([YES] + [NO] * 1999, True),
                           ([YES] + [NO] * 2000, False)]:
            self.assertIs(self.let_by(("run", (NO, words)), machine, ("always", -1)), due, words)

    def test_what_is_no_run(self):
        machine = Machine(1, 1, [("odd", 1, 2)], [3], starts=[-1])
        wish = ("always", 1)
        self.assertIs(self.let_by(("run", (NO, [NO])), machine, wish), True)
        for thing in [*STRANGE, 0, True, (NO, []), (YES, [NO]), (NO, (NO,)), [NO, [NO]], (NO, [NO], 0), (NO,), NO,
                      (NO, [(False, False)]), (NO, [(0,)]), ((0,), [NO]), (NO, NO), (NO, None), (None, [NO])]:
            self.assertIs(self.let_by(("run", thing), machine, wish), False, thing)
        run = (NO, [NO])
        for thing in [run, ["run", run], ("run",), ("run", run, None), ("run", run, run), ("runs", run), ("Run", run),
                      ("kept", run), ("round", run), (b"run", run), (None, run), (("run",), run), (["run"], run),
                      (Odd(), run), ("run", NO, [NO]), ("round", (NO, [NO], 0)), ("run", (NO, [NO], 0)), "run"]:
            self.assertIs(self.let_by(thing, machine, wish), False, thing)

    def test_a_word_that_may_not_come(self):
        machine = Machine(1, 1, [], [2], starts=[-1], promises=[(-2,)])
        self.assertIs(self.let_by(("run", (NO, [NO])), machine, ("always", 1)), True)
        self.assertIs(self.let_by(("run", (NO, [YES])), machine, ("always", 1)), False)


class TestKeptByHand(PaperCase):
    def test_it_is_let_by(self):
        self.assertIs(self.let_by(by_hand()), True)
        self.assertIs(self.let_by(copy.deepcopy(by_hand())), True)
        self.assertIs(lets_paper(machine=example(), wish=WISH, thing=by_hand()), True)

    def test_no_clauses_at_all(self):
        machine = Machine(1, 1, [("or", 1, -1)], [2])
        # The gate's clauses are (-1, 3), (1, 3).
        bar = [("told", 1), ("told", 0), ("met", 0, 1, 1)]
        self.assertIs(self.let_by(("kept", [], [], bar), machine, ("always", 3)), True)
        self.assertIs(self.let_by(("kept", [], [bar], bar), machine, ("always", 3)), False)
        self.assertIs(self.let_by(("kept", [], [], []), machine, ("always", 3)), False)
        self.assertIs(self.let_by(("kept", [], (), bar), machine, ("always", 3)), False)
        self.assertIs(self.let_by(("kept", (), [], bar), machine, ("always", 3)), False)
        self.assertIs(self.let_by(("kept", [], [], bar), machine, ("always", -3)), False)

    def test_rows_that_end_with_less(self):
        # The last clause lies within the due one, though it isn't the same.
        machine = Machine(2, 0, [], [1, 2], starts=[-1, -2])
        clauses = [(-1,), (-1, -2)]
        rows = [("told", 0), ("told", 2), ("met", 1, 0, 1)]
        self.assertIs(self.let_by(("kept", clauses, [rows, rows], [("told", 0)]), machine, ("always", -1)), True)

    def test_rows_with_more_than_is_needed(self):
        self.assertIs(self.let_by(bent(bar=[("told", 0), ("told", 1)])), True)
        self.assertIs(self.let_by(bent(beats=[[("told", 8), *[("told", 0), ("told", 5), ("met", 2, 1, 1)]], SECOND])), True)

    def test_a_clause_twice_and_clauses_that_are_not_needed(self):
        clauses = [(-1,), (-2,), (-1,)]
        first = [("told", 0), ("told", 6), ("met", 1, 0, 1)]
        second = [("told", 2), ("told", 3), ("met", 1, 0, 1), ("told", 8), ("met", 3, 2, 4)]
        self.assertIs(self.let_by(("kept", clauses, [first, second, first], BAR)), True)


class TestKeptBent(PaperCase):
    def refused(self, thing):
        self.assertIs(self.let_by(thing), False, thing)

    def test_the_whole(self):
        paper = by_hand()
        for thing in [list(paper), paper[:3], (*paper, []), (*paper, None), ("Kept", *paper[1:]), ("run", *paper[1:]),
                      ("ranks", *paper[1:]), (None, *paper[1:]), (b"kept", *paper[1:]), (("kept",), *paper[1:]),
                      paper[1:], ("kept", paper), ("kept", paper[1:]), (paper,), [paper], paper[::-1],
                      ("kept", *paper), ({}, *paper[1:]), (Odd(), *paper[1:]), *STRANGE, 0, 1, True, False, (), []]:
            self.refused(thing)

    def test_each_part_of_any_kind(self):
        for part in ("clauses", "beats", "bar"):
            for thing in [*STRANGE, 0, 1, True, False, (), []]:
                self.refused(bent(**{part: thing}))

    def test_tuples_for_lists_and_lists_for_tuples(self):
        self.refused(bent(clauses=tuple(CLAUSES)))
        self.refused(bent(beats=(FIRST, SECOND)))
        self.refused(bent(bar=tuple(BAR)))
        self.refused(bent(beats=[tuple(FIRST), SECOND]))
        self.refused(bent(beats=[FIRST, tuple(SECOND)]))
        self.refused(bent(clauses=[[-1], (-2,)]))
        self.refused(bent(clauses=[(-1,), [-2]]))
        self.refused(bent(bar=[list(BAR[0])]))
        for number, row in enumerate(SECOND):
            self.refused(bent(beats=[FIRST, [*SECOND[:number], list(row), *SECOND[number + 1:]]]))

    def test_clauses_that_are_none_of_the_boxes(self):
        for clause in [(0,), (3,), (-3,), (-4,), (5,), (True,), (-1, 1), (-1, -1), (-2, -1), (-1.0,), ("-1",), (None,),
                       -1, None, "-1", {-1}, Odd()]:
            self.refused(bent(clauses=[(-1,), clause]))
            self.refused(bent(clauses=[clause, (-2,)]))
            self.refused(bent(clauses=[(-1,), (-2,), clause], beats=[FIRST, SECOND, SECOND]))

    def test_a_clause_of_an_input(self):
        # The input is promised not to be, but a clause of it is none of the boxes.
        machine = Machine(1, 1, [], [2], starts=[-1], promises=[(-2,)])
        rows = [("told", 1), ("told", 3), ("met", 0, 1, 2)]
        self.assertIs(self.let_by(("kept", [(-1,)], [rows], [("told", 0)]), machine, ("always", -1)), True)
        rows = [("told", 2), ("told", 4), ("met", 0, 1, 2)]
        for clause, due in [((-1,), True), ((-2,), False), ((-1, -2), False)]:
            paper = ("kept", [(-1,), clause], [rows, rows], [("told", 0)])
            self.assertIs(self.let_by(paper, machine, ("always", -1)), due, clause)

    def test_a_clause_without_a_sign_of_the_starts(self):
        # A box that stays as it is, and doesn't begin so: the clauses keep themselves, but not from the beginnings on.
        for starts, due in [([-1], True), ([-1, 2], True), ([1], False), ([], False), ([2], False), ([-2], False)]:
            machine = Machine(2, 0, [], [1, 2], starts=starts)
            rows = [("told", 0), ("told", 1), ("met", 1, 0, 1)]
            self.assertIs(self.let_by(("kept", [(-1,)], [rows], [("told", 0)]), machine, ("always", -1)), due, starts)

    def test_the_empty_clause(self):
        self.refused(("kept", [()], [[("told", 0)]], [("told", 0)]))
        self.refused(("kept", [(), (-1,)], [[("told", 0)], [("told", 0)]], [("told", 0)]))

    def test_too_few_and_too_many_rows(self):
        self.refused(bent(beats=[FIRST]))
        self.refused(bent(beats=[SECOND]))
        self.refused(bent(beats=[]))
        self.refused(bent(beats=[FIRST, SECOND, SECOND]))
        self.refused(bent(beats=[FIRST, FIRST, SECOND]))
        self.refused(bent(beats=[FIRST, SECOND, []]))
        self.refused(bent(beats=[SECOND, FIRST]))
        self.refused(bent(beats=[FIRST, FIRST]))
        self.refused(bent(beats=[FIRST, []]))
        self.refused(bent(beats=[[], SECOND]))
        self.refused(bent(clauses=[(-1,)]))
        self.refused(bent(clauses=[(-1,), (-2,), (-2,)]))
        self.refused(bent(clauses=[]))

    def test_rows_that_end_elsewhere(self):
        self.refused(bent(bar=[("told", 0)]))
        self.refused(bent(bar=[("told", 1), ("told", 0)]))
        self.refused(bent(bar=FIRST))
        self.refused(bent(bar=[("told", 4)]))
        for number in range(1, len(FIRST)):
            self.refused(bent(beats=[FIRST[:number], SECOND]))
        for number in range(1, len(SECOND)):
            self.refused(bent(beats=[FIRST, SECOND[:number]]))
        self.refused(bent(beats=[[*FIRST, ("told", 0)], SECOND]))
        # To the clause as it is ahead of the beat, not behind it.
        self.refused(bent(beats=[[("told", 0)], SECOND]))
        self.refused(bent(beats=[FIRST, [("told", 1)]]))

    def test_rows_that_are_none(self):
        for row in [("told", 9), ("told", -1), ("told", True), ("told", None), ("told",), ("told", 0, 0), ("Told", 0),
                    ("met", 0, 1, 1), ("met", 1, 0, -1), ("met", 1, 0, 2), ("met", 1, 1, 1), ("met", 1, 2, 1),
                    ("met", 1, 0), ("met", True, False, 1), None, (), "told", 0, [], ["told", 0]]:
            self.refused(bent(beats=[[*FIRST[:2], row, FIRST[2]], SECOND]))
            self.refused(bent(beats=[[*FIRST, row], SECOND]))
            self.refused(bent(bar=[row, *BAR]))
            self.refused(bent(bar=[*BAR, row]))

    def test_the_list_ends_with_the_beats_clauses(self):
        self.assertEqual(len(beat_list(example())), 7)
        self.assertIs(self.let_by(bent(bar=[("told", 8), ("told", 1)])), True)
        self.refused(bent(bar=[("told", 9), ("told", 1)]))

    def test_another_wish(self):
        for sign in (1, -1, 2, 3, -3, 4, -4):
            self.assertIs(self.let_by(by_hand(), wish=("always", sign)), False, sign)

    def test_another_machine(self):
        machine = Machine(2, 1, [("or", 1, 3)], [1, 4], starts=[-1, -2])
        self.assertIs(self.let_by(by_hand(), machine), False)
        machine = Machine(2, 1, [("and", 1, 3)], [1, 4], starts=[-1])
        self.assertIs(self.let_by(by_hand(), machine), False)


class TestSolverRows(PaperCase):
    """Of clauses with rows by a Solver a paper comes just where they are kept and bar harm."""

    def check(self, walked, sign, clauses):
        paper = solver_paper(walked.machine, sign, clauses)
        due = walked.fails(sign, clauses) is None
        self.assertIs(self.let_by(paper, walked.machine, ("always", sign)), due, (sign, clauses))
        return due

    def test_few_clauses(self):
        let_by = 0
        for machine in small_machines(31, 80, most_boxes=2):
            walked = Walked(machine)
            every = all_clauses(machine.boxes())
            lists = [[], *([one] for one in every), *(list(two) for two in itertools.combinations(every, 2))]
            for sign in all_signs(machine)[::3]:
                told = [self.check(walked, sign, clauses) for clauses in lists]
                let_by += told.count(True)
                if any(told):
                    self.assertIsNone(walked.harm(sign))
        self.assertGreater(let_by, 100)

    def test_not_both(self):
        """Where a run is let by nothing is let by as kept, whatever stands in for rows that don't follow."""
        chance = random.Random(32)
        harmed = 0
        for machine in small_machines(33, 120):
            walked = Walked(machine)
            sign = chance.choice(all_signs(machine))
            if walked.harm(sign) is None:
                continue
            harmed += 1
            every = [clause for clause in all_clauses(machine.boxes()) if set(clause) & set(machine.starts())]
            lists = [[], [(start,) for start in machine.starts()], every, chance.choices(every or [()], k=2)]
            for clauses in lists:
                word, clauses, beats, bar = solver_paper(machine, sign, clauses)
                rows = [rows for rows in [*beats, bar, [("told", 0)]] if rows]
                beats = [rows_ or chance.choice(rows) for rows_ in beats]
                paper = (word, clauses, beats, bar or chance.choice(rows))
                self.assertIs(self.let_by(paper, machine, ("always", sign)), False)
        self.assertGreater(harmed, 50)

    def test_bent_by_chance(self):
        """Whatever is let by is kept and bars harm."""
        chance = random.Random(34)
        let_by = 0
        for machine in small_machines(35, 150):
            walked = Walked(machine)
            for sign in all_signs(machine):
                clauses = [(start,) for start in machine.starts()]
                if walked.fails(sign, clauses) is not None:
                    continue
                word, clauses, beats, bar = solver_paper(machine, sign, clauses)
                self.assertIs(self.let_by((word, clauses, beats, bar), machine, ("always", sign)), True)
                for number in range(10):
                    paper = copy.deepcopy((word, clauses, beats, bar))
                    self.bend(chance, chance.choice([*paper[2], paper[3]]), len(machine))
                    if self.let_by(paper, machine, ("always", sign)):
                        let_by += 1
                        self.assertIsNone(walked.fails(sign, paper[1]))
                    other = chance.choice(all_signs(machine))
                    if self.let_by(paper, machine, ("always", other)):
                        self.assertIsNone(walked.fails(other, paper[1]))
        self.assertGreater(let_by, 5)

    def bend(self, chance, rows, many):
        number = chance.randrange(len(rows))
        row = list(rows[number])
        place = chance.randrange(1, len(row))
        row[place] += chance.choice((-1, 1))
        rows[number] = tuple(row)


class TestRefusals(PaperCase):
    def test_no_wish(self):
        for wish in NO_WISHES:
            for thing in (by_hand(), ("run", ((False, False), [NO])), None, ()):
                with self.assertRaises(NoWish) as caught:
                    lets_paper(example(), wish, thing)
                self.assertIsInstance(caught.exception, KeptError)

    def test_what_is_handed_in_stays(self):
        paper = by_hand()
        machine = example()
        for again in range(2):
            self.assertIs(lets_paper(machine, WISH, paper), True)
            self.assertEqual(paper, by_hand())
        self.assertEqual(machine, example())
        run = ("run", ((False, False), [NO]))
        self.assertIs(lets_paper(machine, ("always", 1), run), True)
        self.assertEqual(run, ("run", ((False, False), [NO])))


if __name__ == "__main__":
    unittest.main()
