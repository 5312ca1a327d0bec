"""Promise 6: the solver, against a going through of all fillings."""

import itertools
import random
import unittest

from keptclauses.errors import KeptError, NoClause, NoNumber, NoSigns
from keptclauses.rows import lets_rows
from keptclauses.solver import Solver
from tests.tools import NO_NUMBERS, STRANGE, Odd, all_clauses, all_fillings, deadline, holds_by, says, walked

NO_CLAUSES = [
    *STRANGE, 0, 1, True, False, [], [1], [1, 2], (0,), (4,), (-4,), (1, 4), (61,), (1, 1), (1, -1), (2, 1),
    (True,), (False,), (1, True), (None,), ("1",), ([1],), ((1,),), {1},
]
NO_SIGNS = [
    *STRANGE, 0, 1, True, False, [0], (0,), [4], [-4], (1, 4), [61], [1, 1], (2, 2), [1, -1], (-2, 1, 2), [True],
    [False], [1, True], [None], ["1"], [[1]], [(1,)], ((1,),), {1}, {1: 1}, "1", [1, 2, 3, -1], (1, 2, 3, 3), range(1, 3),
]


def solver_of(many, clauses):
    made = Solver(many)
    for clause in clauses:
        made.put(clause)
    return made


def least(many, clauses, under):
    """The least filling, by going through all of them, no ahead of yes; None where there is none."""
    for filling in all_fillings(many):
        if all(holds_by(clause, filling) for clause in clauses) and all(says(filling, sign) for sign in under):
            return filling
    return None


class SolverCase(unittest.TestCase):
    def check_no(self, clauses, under, answer):
        """That an answer is a no, with rows to just the signs of some turned about."""
        self.assertIsInstance(answer, tuple)
        self.assertEqual(len(answer), 3, answer)
        word, some, rows = answer
        self.assertEqual(word, "no")
        self.assertIsInstance(some, list)
        self.assertIsInstance(rows, list)
        self.assertEqual(some, [sign for sign in under if sign in some])
        self.assertEqual(walked(clauses, rows)[-1], frozenset(-sign for sign in some))
        end = tuple(sorted([-sign for sign in some], key=abs))
        self.assertIs(lets_rows(clauses, rows, end=end), True)

    def check(self, solver, under):
        """That a solver answers as a going through of all fillings does."""
        clauses = solver.clauses()
        due = least(solver.many(), clauses, under)
        answer = solver.ask(under=under)
        if due is None:
            self.check_no(clauses, under, answer)
        else:
            self.assertEqual(answer, ("yes", due), (clauses, under))
            self.assertIsInstance(answer, tuple)
            self.assertIsInstance(answer[1], tuple)
            self.assertTrue(all(truth is True or truth is False for truth in answer[1]))
        return answer


class TestAsk(SolverCase):
    def test_two_things_with_any_clauses_under_any_signs(self):
        unders = [()]
        for one, other in itertools.permutations((1, -1, 2, -2), 2):
            unders.append((one,))
            if abs(one) != abs(other):
                unders.append((one, other))
        pool = all_clauses(2)
        for chosen in range(1 << len(pool)):
            clauses = [clause for k, clause in enumerate(pool) if chosen >> k & 1]
            solver = solver_of(2, clauses)
            for under in unders:
                self.check(solver, under)

    def test_a_few_things_with_any_clauses_under_any_signs(self):
        chance = random.Random(7)
        words = {"yes": 0, "no": 0}
        for time in range(1500):
            many = chance.randint(1, 6)
            pool = [clause for clause in all_clauses(many) if 0 < len(clause) <= 3]
            clauses = [chance.choice(pool) for k in range(chance.randint(0, 4 * many))]
            solver = solver_of(many, clauses)
            for k in range(3):
                things = chance.sample(range(1, many + 1), chance.randint(0, many))
                under = [thing * chance.choice((1, -1)) for thing in things]
                answer = self.check(solver, under)
                words[answer[0]] += 1
                self.assertEqual(solver.ask(under=tuple(under)), answer)
            self.assertEqual(solver.clauses(), clauses)
        self.assertGreater(min(words.values()), 500)

    def test_no_that_only_trying_finds(self):
        """All clauses of all things: each filling harms one, and none has one sign alone."""
        for many in (2, 3, 4, 5):
            clauses = [clause for clause in all_clauses(many) if len(clause) == many]
            answer = self.check(solver_of(many, clauses), ())
            self.assertEqual(answer[:2], ("no", []))
            for left_out in range(len(clauses)):
                fewer = clauses[:left_out] + clauses[left_out + 1:]
                due = tuple(sign < 0 for sign in clauses[left_out])
                self.assertEqual(self.check(solver_of(many, fewer), ()), ("yes", due))

    def test_no_that_trying_finds_under_signs(self):
        clauses = [(-1, *clause) for clause in [(3, 4), (3, -4), (-3, 4), (-3, -4)]]
        solver = solver_of(4, clauses)
        self.assertEqual(self.check(solver, [2, 1])[1], [1])
        self.assertEqual(self.check(solver, [1, -2])[1], [1])
        self.assertEqual(self.check(solver, [])[0], "yes")
        self.assertEqual(self.check(solver, [-1, 2])[0], "yes")

    def test_the_least_filling_is_no_ahead_of_yes_from_the_first_thing_on(self):
        self.assertEqual(solver_of(3, []).ask(), ("yes", (False, False, False)))
        self.assertEqual(solver_of(3, [(1, 3)]).ask(), ("yes", (False, False, True)))
        self.assertEqual(solver_of(3, [(1, 2, 3)]).ask(), ("yes", (False, False, True)))
        self.assertEqual(solver_of(3, [(1, 3), (1, -3)]).ask(), ("yes", (True, False, False)))
        self.assertEqual(solver_of(3, [(1, 3)]).ask(under=[-3]), ("yes", (True, False, False)))
        self.assertEqual(solver_of(3, [(1, 2), (-2, 3)]).ask(under=(2,)), ("yes", (False, True, True)))

    def test_a_clause_without_signs(self):
        solver = solver_of(2, [(1,), (), (2,)])
        answer = self.check(solver, [1, -2])
        self.assertEqual(self.check(solver, ())[1], [])
        self.assertIn(answer[1], ([], [-2]))
        self.assertEqual(self.check(solver_of(1, [()]), ())[:2], ("no", []))

    def test_some_stand_in_the_order_of_under(self):
        solver = solver_of(4, [(-1, -2, -3, -4)])
        for under in itertools.permutations((1, 2, 3, 4)):
            answer = self.check(solver, list(under))
            self.assertEqual(answer[1], list(under))

    def test_signs_that_say_nothing_to_it_are_no_ones_of_some(self):
        solver = solver_of(3, [(-2,)])
        self.assertEqual(self.check(solver, [2])[:2], ("no", [2]))
        self.assertEqual(self.check(solver, [1, 2, 3])[1], [2])
        self.assertEqual(self.check(solver, [3, 2, -1])[1], [2])

    def test_under_left_out_is_none(self):
        solver = solver_of(2, [(1, 2)])
        self.assertEqual(solver.ask(), solver.ask(under=()))
        self.assertEqual(solver.ask(), solver.ask(under=[]))
        with self.assertRaises(TypeError):
            solver.ask(())

    def test_in_whatever_order_it_is_asked_it_tells_the_same(self):
        chance = random.Random(11)
        for time in range(40):
            pool = [clause for clause in all_clauses(5) if 2 <= len(clause) <= 3]
            clauses = chance.sample(pool, 16)
            unders = [()]
            for k in range(12):
                things = chance.sample(range(1, 6), chance.randint(1, 5))
                unders.append(tuple(thing * chance.choice((1, -1)) for thing in things))
            due = [solver_of(5, clauses).ask(under=under) for under in unders]
            solver = solver_of(5, clauses)
            for again in range(3):
                for number in chance.sample(range(len(unders)), len(unders)):
                    self.assertEqual(solver.ask(under=unders[number]), due[number])
                    self.assertEqual(solver.ask(under=list(unders[number])), due[number])


class TestSixtyThings(SolverCase):
    def test_a_chain_of_sixty_clauses(self):
        chain = [(-thing, thing + 1) for thing in range(1, 60)]
        for clauses in [[(1,), *chain], [*chain, (1,)], [*chain[::-1], (1,)]]:
            solver = solver_of(60, clauses)
            self.assertEqual(len(solver), 60)
            with deadline(20):
                self.assertEqual(solver.ask(), ("yes", (True,) * 60))
                self.check_no(clauses, [-60], solver.ask(under=[-60]))
                self.check_no(clauses, [-30], solver.ask(under=(-30,)))

    def test_a_chain_asked_from_either_end(self):
        chain = [(-thing, thing + 1) for thing in range(1, 60)]
        for clauses in [chain, chain[::-1]]:
            solver = solver_of(60, clauses)
            with deadline(20):
                self.assertEqual(solver.ask(), ("yes", (False,) * 60))
                self.assertEqual(solver.ask(under=[1]), ("yes", (True,) * 60))
                self.assertEqual(solver.ask(under=[31]), ("yes", (False,) * 30 + (True,) * 30))
                self.assertEqual(solver.ask(under=[-60]), ("yes", (False,) * 60))
                answer = solver.ask(under=[-60, 1])
                self.check_no(clauses, [-60, 1], answer)
                self.assertEqual(answer[1], [-60, 1])

    def test_a_ring_that_turns_about(self):
        ring = [(-thing, thing + 1) for thing in range(1, 60)] + [(-1, -60)]
        solver = solver_of(60, ring)
        with deadline(20):
            self.assertEqual(solver.ask(), ("yes", (False,) * 60))
            self.check_no(ring, [1], solver.ask(under=[1]))

    def test_things_by_twos(self):
        clauses = []
        for thing in range(1, 60, 2):
            clauses += [(thing, thing + 1), (-thing, -thing - 1)]
        solver = solver_of(60, clauses)
        with deadline(20):
            self.assertEqual(solver.ask(), ("yes", (False, True) * 30))
            self.assertEqual(solver.ask(under=[1, 59]), ("yes", (True, False) + (False, True) * 28 + (True, False)))
            every = tuple(thing for thing in range(59, 0, -2))
            self.assertEqual(solver.ask(under=every), ("yes", (True, False) * 30))
            answer = solver.ask(under=[3, 59, -7, 60])
            self.check_no(clauses, [3, 59, -7, 60], answer)
            self.assertEqual(answer[1], [59, 60])
        solver.put((-59,))
        solver.put((-60,))
        with deadline(20):
            answer = solver.ask()
            self.check_no(solver.clauses(), (), answer)
            self.assertEqual(answer[1], [])


class TestPutAndBack(SolverCase):
    def test_put_tells_nothing_and_keeps_order(self):
        solver = Solver(3)
        self.assertEqual((len(solver), solver.clauses(), solver.many()), (0, [], 3))
        for number, clause in enumerate([(2,), (1, -3), (2,), (), (2,)]):
            self.assertIsNone(solver.put(clause))
            self.assertEqual(len(solver), number + 1)
        self.assertEqual(solver.clauses(), [(2,), (1, -3), (2,), (), (2,)])

    def test_a_clause_twice_is_taken_back_once(self):
        solver = solver_of(2, [(1,), (1,)])
        self.assertIsNone(solver.back())
        self.assertEqual(solver.clauses(), [(1,)])
        self.assertEqual(solver.ask(), ("yes", (True, False)))
        solver.back()
        self.assertEqual(solver.ask(), ("yes", (False, False)))

    def test_back_of_one_of_several_of_all(self):
        clauses = [(1,), (2,), (3,), (-1, 2), (3,)]
        for many in range(1, 6):
            solver = solver_of(3, clauses)
            self.assertIsNone(solver.back(many))
            self.assertEqual(solver.clauses(), clauses[:5 - many])
            self.assertEqual(len(solver), 5 - many)
            self.assertEqual(solver.ask(), solver_of(3, clauses[:5 - many]).ask())
        solver = solver_of(3, clauses)
        solver.back(many=2)
        self.assertEqual(solver.clauses(), clauses[:3])

    def test_answers_behind_are_those_of_a_solver_made_anew(self):
        chance = random.Random(3)
        pool = [clause for clause in all_clauses(4) if len(clause) <= 3]
        for time in range(60):
            solver = Solver(4)
            stand = []
            for step in range(25):
                if stand and chance.random() < 0.4:
                    many = chance.randint(1, len(stand))
                    solver.back(many)
                    stand = stand[:len(stand) - many]
                else:
                    clause = chance.choice(pool)
                    solver.put(clause)
                    stand.append(clause)
                things = chance.sample(range(1, 5), chance.randint(0, 4))
                under = [thing * chance.choice((1, -1)) for thing in things]
                self.assertEqual(solver.clauses(), stand)
                self.assertEqual(self.check(solver, under), solver_of(4, stand).ask(under=under))
            self.assertEqual(solver, solver_of(4, stand))


class TestRefusals(SolverCase):
    def test_many(self):
        for many in [*NO_NUMBERS, 0, -1, 61, 62, -60, 10 ** 40]:
            with self.assertRaises(NoNumber):
                Solver(many)
        for many in (1, 2, 59, 60):
            self.assertEqual(Solver(many).many(), many)
        self.assertEqual(Solver(many=4).many(), 4)

    def test_put(self):
        solver = solver_of(3, [(1, 2), (-1,)])
        answer = solver.ask(under=[3])
        for clause in NO_CLAUSES:
            with self.assertRaises(NoClause) as caught:
                solver.put(clause)
            self.assertIsInstance(caught.exception, KeptError)
            self.assertEqual(solver.clauses(), [(1, 2), (-1,)])
        self.assertEqual(len(solver), 2)
        self.assertEqual(solver.ask(under=[3]), answer)
        solver.put(clause=(3,))
        self.assertEqual(len(solver), 3)

    def test_put_of_things_at_and_beyond_its_own(self):
        for many in (1, 2, 59, 60):
            solver = Solver(many)
            solver.put((many,))
            solver.put((-many,))
            for sign in (many + 1, -many - 1):
                with self.assertRaises(NoClause):
                    solver.put((sign,))
            self.assertEqual(solver.clauses(), [(many,), (-many,)])

    def test_back(self):
        solver = solver_of(3, [(1, 2), (-1,)])
        for many in [*NO_NUMBERS, 0, -1, -2, 3, 4, 10 ** 40]:
            with self.assertRaises(NoNumber):
                solver.back(many)
            self.assertEqual(solver.clauses(), [(1, 2), (-1,)])
        self.assertEqual(solver.ask(), ("yes", (False, True, False)))

    def test_back_of_none(self):
        solver = Solver(3)
        for many in (0, 1, 2):
            with self.assertRaises(NoNumber):
                solver.back(many)
        with self.assertRaises(NoNumber):
            solver.back()
        self.assertEqual(solver, Solver(3))

    def test_ask(self):
        solver = solver_of(3, [(1, 2), (-1,)])
        for under in NO_SIGNS:
            with self.assertRaises(NoSigns) as caught:
                solver.ask(under=under)
            self.assertIsInstance(caught.exception, KeptError)
            self.assertEqual(solver.clauses(), [(1, 2), (-1,)])
        self.assertEqual(solver.ask(), ("yes", (False, True, False)))

    def test_ask_of_things_at_and_beyond_its_own(self):
        for many in (1, 2, 59, 60):
            solver = Solver(many)
            self.assertEqual(solver.ask(under=[many]), ("yes", (False,) * (many - 1) + (True,)))
            self.assertEqual(solver.ask(under=[-many]), ("yes", (False,) * many))
            for sign in (many + 1, -many - 1):
                with self.assertRaises(NoSigns):
                    solver.ask(under=[sign])


class TestLikeness(SolverCase):
    def test_like_where_many_and_clauses_are(self):
        self.assertTrue(Solver(3) == Solver(3))
        self.assertFalse(Solver(3) != Solver(3))
        self.assertFalse(Solver(3) == Solver(4))
        self.assertTrue(Solver(3) != Solver(4))
        one = solver_of(3, [(1,), (2,)])
        self.assertTrue(one == solver_of(3, [(1,), (2,)]))
        self.assertFalse(one == solver_of(3, [(2,), (1,)]))
        self.assertFalse(one == solver_of(3, [(1,)]))
        self.assertFalse(one == solver_of(3, [(1,), (2,), (2,)]))
        self.assertFalse(one == solver_of(3, [(1,), (-2,)]))
        self.assertFalse(one == solver_of(4, [(1,), (2,)]))

    def test_asking_and_taking_back_leave_it_alike(self):
        one = solver_of(3, [(1,), (2,)])
        one.ask(under=[3])
        one.put((3,))
        self.assertFalse(one == solver_of(3, [(1,), (2,)]))
        one.back()
        self.assertTrue(one == solver_of(3, [(1,), (2,)]))

    def test_like_nothing_else(self):
        solver = solver_of(3, [(1,), (2,)])
        for thing in [*STRANGE, 0, 2, 3, True, False, [(1,), (2,)], (3, [(1,), (2,)]), solver.clauses(), Odd()]:
            self.assertIs(solver == thing, False)
            self.assertIs(thing == solver, False)
            self.assertIs(solver != thing, True)
        self.assertIs(Solver(3) == [], False)
        self.assertIs(Solver(1) == 1, False)


class TestOwnLists(SolverCase):
    def test_told_lists_when_changed_change_nothing(self):
        solver = solver_of(2, [(1,), (-1, 2)])
        clauses = solver.clauses()
        clauses.append((-2,))
        clauses[0] = (-1,)
        self.assertEqual(solver.clauses(), [(1,), (-1, 2)])
        self.assertEqual(len(solver), 2)
        due = solver_of(2, [(1,), (-1, 2)]).ask(under=[-2])
        word, some, rows = solver.ask(under=[-2])
        some.clear()
        rows.append("more")
        rows[0] = None
        self.assertEqual(solver.ask(under=[-2]), due)
        self.assertEqual(solver.clauses(), [(1,), (-1, 2)])

    def test_what_is_handed_in_stays_and_is_not_kept(self):
        solver = solver_of(3, [(-1, -2)])
        under = [2, 3, 1]
        word, some, rows = solver.ask(under=under)
        self.assertEqual((under, some), ([2, 3, 1], [2, 1]))
        some.append(3)
        self.assertEqual(under, [2, 3, 1])
        whole = [2, 1]
        some = solver.ask(under=whole)[1]
        some.clear()
        self.assertEqual(whole, [2, 1])
        whole.clear()
        self.assertEqual(solver.ask(), ("yes", (False, False, False)))


if __name__ == "__main__":
    unittest.main()
