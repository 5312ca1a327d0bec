"""Promise 4: clauses, where they hold, what lies within what, what two meet in."""

import itertools
import unittest

from keptclauses.clauses import clause_of, holds, is_clause, met, within
from keptclauses.errors import KeptError, NoMeeting
from tests.tools import NO_NUMBERS, STRANGE, Odd, all_clauses, all_fillings, holds_by


class TestIsClause(unittest.TestCase):
    def test_clauses(self):
        for clause in [(), (1,), (-1,), (60,), (-60,), (1, 2), (1, -2), (-1, 2), (-1, -2, 3), (-7, 8, -60)]:
            self.assertIs(is_clause(clause), True, clause)

    def test_sixty_signs(self):
        self.assertIs(is_clause(tuple(range(1, 61))), True)
        self.assertIs(is_clause(tuple(-thing for thing in range(1, 61))), True)
        self.assertIs(is_clause(tuple(range(1, 62))), False)

    def test_so_many_things(self):
        for many in (0, 1, 2, 3, 59, 60):
            self.assertIs(is_clause((), many), True)
            for thing in (1, 2, 3, 4, 59, 60, 61):
                self.assertIs(is_clause((thing,), many), thing <= many and thing <= 60, (thing, many))
                self.assertIs(is_clause((-thing,), many=many), thing <= many and thing <= 60, (thing, many))
        self.assertIs(is_clause((1, 2, -4), 4), True)
        self.assertIs(is_clause((1, 2, -4), 3), False)
        self.assertIs(is_clause((1, 2, 4), 3), False)

    def test_all_short_tuples(self):
        clauses = all_clauses(3)
        for length in range(4):
            for signs in itertools.product(range(-4, 5), repeat=length):
                self.assertIs(is_clause(signs, 3), signs in clauses, signs)

    def test_things_twice_or_not_rising(self):
        for signs in [(1, 1), (1, -1), (-1, 1), (-1, -1), (2, 1), (-2, 1), (2, -1), (-2, -1), (1, 3, 2), (1, 2, 2),
                      (1, 2, -1), (-3, -2, -1), (60, 1)]:
            self.assertIs(is_clause(signs), False, signs)

    def test_no_signs(self):
        for signs in [(0,), (0, 1), (1, 0), (61,), (-61,), (1, 61), (1, -61), (10 ** 50,), (-10 ** 50,)]:
            self.assertIs(is_clause(signs), False, signs)

    def test_other_kinds_among_the_signs(self):
        for thing in NO_NUMBERS:
            for signs in [(thing,), (thing, 2), (1, thing), (1, thing, 3)]:
                self.assertIs(is_clause(signs), False, signs)
                self.assertIs(is_clause(signs, 3), False, signs)

    def test_truths_are_no_signs(self):
        for signs in [(True,), (False,), (True, 2), (False, 1), (-2, True)]:
            self.assertIs(is_clause(signs), False, signs)
            self.assertIs(is_clause(signs, 2), False, signs)

    def test_other_kinds(self):
        for thing in [*STRANGE, True, False, 0, 1, -1, [], [1], [1, 2], {1}, {1: 1}, "1", Odd(), [(1,)], ((1,),)]:
            self.assertIs(is_clause(thing), False, thing)
            self.assertIs(is_clause(thing, 0), False, thing)
            self.assertIs(is_clause(thing, 60), False, thing)

    def test_by_names(self):
        self.assertIs(is_clause(thing=(2,), many=2), True)
        self.assertIs(is_clause(many=1, thing=(2,)), False)


class TestClauseOf(unittest.TestCase):
    def test_any_signs_in_any_order(self):
        for length in range(5):
            for signs in itertools.product((-3, -2, -1, 1, 2, 3), repeat=length):
                if any(-sign in signs for sign in signs):
                    self.assertIsNone(clause_of(signs), signs)
                    self.assertIsNone(clause_of(list(signs)), signs)
                else:
                    due = tuple(sorted(set(signs), key=abs))
                    self.assertEqual(clause_of(signs), due)
                    self.assertEqual(clause_of(list(signs)), due)
                    self.assertIsInstance(clause_of(list(signs)), tuple)

    def test_none_at_all(self):
        self.assertEqual(clause_of([]), ())
        self.assertEqual(clause_of(()), ())

    def test_far_things(self):
        self.assertEqual(clause_of([60, -59, 1, 60, -30, -59]), (1, -30, -59, 60))
        self.assertIsNone(clause_of([60, 2, 3, -60]))

    def test_what_is_handed_in_stays(self):
        signs = [3, -1, 3, 2]
        self.assertEqual(clause_of(signs), (-1, 2, 3))
        self.assertEqual(signs, [3, -1, 3, 2])
        both = [3, -1, -3]
        self.assertIsNone(clause_of(both))
        self.assertEqual(both, [3, -1, -3])


class TestHoldsAndWithin(unittest.TestCase):
    def test_holds_by_all_fillings(self):
        for many in range(5):
            for clause in all_clauses(many):
                for filling in all_fillings(many):
                    self.assertIs(holds(clause, filling), holds_by(clause, filling), (clause, filling))

    def test_a_clause_without_signs_never_holds(self):
        self.assertIs(holds((), ()), False)
        self.assertIs(holds((), (True, True)), False)

    def test_within(self):
        for one in all_clauses(3):
            for other in all_clauses(3):
                self.assertIs(within(one, other), set(one) <= set(other), (one, other))

    def test_within_looks_at_the_sign(self):
        self.assertIs(within((-1,), (1, 2)), False)
        self.assertIs(within((1,), (1, 2)), True)
        self.assertIs(within((1, 2), (1,)), False)
        self.assertIs(within((), ()), True)

    def test_by_names(self):
        self.assertIs(holds(clause=(-2,), filling=(True, False)), True)
        self.assertIs(within(one=(1,), other=(1, 2)), True)
        self.assertIs(within(other=(1,), one=(1, 2)), False)


class TestMet(unittest.TestCase):
    def refused(self, one, other, thing):
        with self.assertRaises(NoMeeting) as caught:
            met(one, other, thing)
        self.assertIsInstance(caught.exception, KeptError)
        self.assertIs(caught.exception.thing, thing)

    def test_two_that_meet(self):
        self.assertEqual(met((1,), (-1,), 1), ())
        self.assertEqual(met((1, 2), (-1, 3), 1), (2, 3))
        self.assertEqual(met((-1, 2), (-2, 3), 2), (-1, 3))
        self.assertEqual(met((2, -5, 60), (-2, 3, -5), 2), (3, -5, 60))
        self.assertEqual(met((5, 60), (-1, -60), 60), (-1, 5))

    def test_not_the_other_way_about(self):
        self.refused((-1, 2), (1, 3), 1)
        self.refused((-1,), (1,), 1)

    def test_unlike_in_one_thing_more(self):
        self.refused((1, 2), (-1, -2), 1)
        self.refused((1, 2), (-1, -2), 2)
        self.refused((1, -2), (-1, 2), 1)
        self.refused((1, -2, 3), (-1, 2, 3), 1)

    def test_a_thing_that_is_not_in_both(self):
        self.refused((1, 2), (-1, 3), 4)
        self.refused((1, 2), (-1, 3), 2)
        self.refused((1, 2), (-1, -3), 3)
        self.refused((), (), 1)
        self.refused((1,), (), 1)
        self.refused((), (-1,), 1)
        self.refused((1,), (1,), 1)

    def test_no_thing(self):
        for thing in [0, -1, -2, 61, 10 ** 40, -10 ** 40]:
            self.refused((1, 2), (-1, 3), thing)
            self.refused((-1, 2), (1, 3), thing)
            self.refused((-1,), (1,), thing)

    def test_truths_and_other_kinds_as_thing(self):
        for thing in [*NO_NUMBERS, [0], "1", (1,), Odd()]:
            self.refused((1,), (-1,), thing)
            self.refused((1, 2), (-1, 3), thing)

    def test_all_pairs_of_clauses_of_three_things(self):
        fillings = all_fillings(3)
        for one in all_clauses(3):
            for other in all_clauses(3):
                unlike = [sign for sign in one if -sign in other]
                for thing in range(-4, 5):
                    if unlike == [thing] and thing > 0:
                        told = met(one, other, thing)
                        self.assertTrue(is_clause(told, 3))
                        self.assertEqual(set(told), (set(one) - {thing}) | (set(other) - {-thing}))
                        for filling in fillings:
                            if holds_by(one, filling) and holds_by(other, filling):
                                self.assertTrue(holds_by(told, filling))
                    else:
                        self.refused(one, other, thing)

    def test_by_names(self):
        self.assertEqual(met(thing=1, other=(-1, 2), one=(1, 3)), (2, 3))


if __name__ == "__main__":
    unittest.main()
