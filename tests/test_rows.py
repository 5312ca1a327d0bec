"""Promise 5: rows in which clauses meet, and what is let by."""

import random
import unittest

from keptclauses.errors import KeptError, NoRows
from keptclauses.rows import lets_rows, row_clauses
from tests.tools import NO_NUMBERS, STRANGE, Odd, all_clauses, all_fillings, holds_by

CLAUSES = [(1, 2), (-1, 3), (-2, 3), (-3,), (1, -2)]
ROWS = [
    ("told", 0), ("told", 1), ("met", 0, 1, 1), ("told", 2), ("met", 2, 3, 2), ("told", 3), ("met", 4, 5, 3),
]
ROWS_TOLD = [(1, 2), (-1, 3), (2, 3), (-2, 3), (3,), (-3,), ()]

# Behind ROWS[:3], whose clauses are (1, 2), (-1, 3), (2, 3), none of these is a row.
NO_ROWS = [
    ("told",), ("told", 0, 0), ("told", 5), ("told", -1), ("told", 10 ** 30), ("told", True), ("told", False),
    ("told", "0"), ("told", None), ("told", [0]), ("told", (0,)), ("told", 0, None),
    ["told", 0], ["met", 0, 1, 1], [("told", 0)], ("Told", 0), ("TOLD", 0), ("tell", 0), ("", 0), (0, 0),
    ("met", 0), ("told", 0, 1, 1), ("met", 0, 1), ("met", 0, 1, 1, 1), ("met",), ("Met", 0, 1, 1), (),
    (None, 0), (b"told", 0), (["told"], 0), (("told",), 0), ("told ", 0), "told", "met", b"told", 0, 1, None, True,
    ("met", 0, 3, 1), ("met", 3, 1, 1), ("met", 0, 4, 1), ("met", 4, 1, 1), ("met", 3, 3, 1), ("met", 0, -2, 1),
    ("met", -3, 1, 1), ("met", False, 1, 1), ("met", 0, True, 1), ("met", 0, 1, True), ("met", "0", 1, 1),
    ("met", 0, "1", 1), ("met", 0, 1, "1"), ("met", None, 1, 1), ("met", 0, None, 1), ("met", 0, 1, None),
    ("met", [0], 1, 1), ("met", 0, 1, [1]), ("met", 0, 1, 0), ("met", 0, 1, -1), ("met", 0, 1, 2), ("met", 0, 1, 3),
    ("met", 1, 0, 1), ("met", 1, 0, -1), ("met", 0, 1, 10 ** 30), ("met", 0, 0, 1), ("met", 0, 2, 1),
    ("met", 0, 1, 1, None), (("met", 0, 1, 1),), ({}, 0), (Odd(), 0), {"told": 0},
]


class TestRowClauses(unittest.TestCase):
    def refused(self, clauses, rows, number):
        with self.assertRaises(NoRows) as caught:
            row_clauses(clauses, rows)
        self.assertIsInstance(caught.exception, KeptError)
        self.assertEqual(caught.exception.number, number, rows)
        self.assertIsNot(caught.exception.number, False)
        self.assertIs(lets_rows(clauses, rows), False)
        self.assertIs(lets_rows(clauses, rows, end=(1, 2, 3)), False)

    def test_rows_of_both_kinds(self):
        self.assertEqual(row_clauses(CLAUSES, ROWS), ROWS_TOLD)
        for length in range(1, len(ROWS) + 1):
            self.assertEqual(row_clauses(CLAUSES, ROWS[:length]), ROWS_TOLD[:length])

    def test_a_clause_may_be_told_again(self):
        self.assertEqual(row_clauses(CLAUSES, [("told", 4), ("told", 4), ("told", 0)]), [(1, -2), (1, -2), (1, 2)])

    def test_the_one_has_the_thing_and_the_other_has_it_turned_about(self):
        rows = [("told", 1), ("told", 0), ("met", 1, 0, 1)]
        self.assertEqual(row_clauses(CLAUSES, rows)[-1], (2, 3))
        self.refused(CLAUSES, [("told", 1), ("told", 0), ("met", 0, 1, 1)], 2)

    def test_a_clause_without_signs(self):
        self.assertEqual(row_clauses([()], [("told", 0)]), [()])
        self.refused([()], [("told", 0), ("met", 0, 0, 1)], 1)

    def test_no_list_or_none_in_it(self):
        for rows in [*STRANGE, (), tuple(ROWS), 0, 1, True, False, {0: ("told", 0)}, [], ("told", 0)]:
            if not isinstance(rows, list) or rows == []:
                self.refused(CLAUSES, rows, None)
                self.refused([], rows, None)

    def test_the_first_row_that_is_none(self):
        for row in NO_ROWS:
            self.refused(CLAUSES, [*ROWS[:3], row], 3)
            self.refused(CLAUSES, [*ROWS[:3], row, ("told", 0), None], 3)
        for row in [*STRANGE, *NO_NUMBERS]:
            self.refused(CLAUSES, [*ROWS, row, *ROWS], len(ROWS))
            self.refused(CLAUSES, [row], 0)
            self.refused(CLAUSES, [row, row], 0)

    def test_a_row_speaks_only_of_rows_ahead(self):
        self.refused(CLAUSES, [("met", 0, 1, 1), ("told", 0), ("told", 1)], 0)
        self.refused(CLAUSES, [("told", 0), ("met", 0, 1, 1)], 1)
        self.refused(CLAUSES, [("told", 0), ("met", 0, 2, 1), ("told", 1)], 1)
        self.refused(CLAUSES, [("told", 1), ("met", 2, 0, 1), ("told", 0)], 1)

    def test_numbers_of_clauses_end_with_the_list(self):
        self.refused([], [("told", 0)], 0)
        self.refused([(1,)], [("told", 0), ("told", 1)], 1)
        self.refused([(1,)], [("told", 0), ("told", -1)], 1)
        self.assertEqual(row_clauses([(1,), (2,)], [("told", 1)]), [(2,)])

    def test_clauses_that_are_unlike_in_a_thing_more(self):
        self.refused([(1, 2), (-1, -2)], [("told", 0), ("told", 1), ("met", 0, 1, 1)], 2)
        self.refused([(1, -2), (-1, 2)], [("told", 0), ("told", 1), ("met", 0, 1, 1)], 2)

    def test_what_is_handed_in_stays_and_lists_are_the_askers_own(self):
        clauses = list(CLAUSES)
        rows = list(ROWS)
        told = row_clauses(clauses, rows)
        told.append("more")
        told[0] = None
        self.assertEqual(clauses, CLAUSES)
        self.assertEqual(rows, ROWS)
        self.assertEqual(row_clauses(clauses, rows), ROWS_TOLD)
        single = row_clauses(clauses, [("told", k) for k in range(len(clauses))])
        single.clear()
        self.assertEqual(clauses, CLAUSES)

    def test_by_names(self):
        self.assertEqual(row_clauses(rows=[("told", 0)], clauses=[(4,)]), [(4,)])


class TestLetsRows(unittest.TestCase):
    def test_end_left_out(self):
        self.assertIs(lets_rows(CLAUSES, ROWS), True)
        for length in range(1, len(ROWS)):
            self.assertIs(lets_rows(CLAUSES, ROWS[:length]), False)

    def test_the_last_clause_lies_within_the_end(self):
        for end in all_clauses(3):
            for length in range(1, len(ROWS) + 1):
                due = set(ROWS_TOLD[length - 1]) <= set(end)
                self.assertIs(lets_rows(CLAUSES, ROWS[:length], end=end), due, (length, end))

    def test_only_the_last_clause_counts(self):
        self.assertIs(lets_rows([(1,), (2,)], [("told", 0), ("told", 1)], end=(1,)), False)
        self.assertIs(lets_rows([(1,), (2,)], [("told", 1), ("told", 0)], end=(1,)), True)
        self.assertIs(lets_rows([(1,), ()], [("told", 1), ("told", 0)]), False)

    def test_of_anything(self):
        alike = [tuple(ROWS), [*ROWS, None], [*ROWS, ("told", 9)], [list(row) for row in ROWS]]
        for thing in [*STRANGE, *NO_NUMBERS, 0, 1, *alike]:
            self.assertIs(lets_rows(CLAUSES, thing), False)
            self.assertIs(lets_rows(CLAUSES, thing, end=(1, -2)), False)
            self.assertIs(lets_rows([], thing), False)

    def test_no_row_behind_the_end_is_passed_over(self):
        for row in NO_ROWS:
            self.assertIs(lets_rows(CLAUSES, [*ROWS[:3], row], end=(1, 2, 3)), False, row)
            self.assertIs(lets_rows(CLAUSES, [*ROWS[:3], row, ("told", 0)], end=(1, 2)), False, row)

    def test_end_is_handed_in_by_its_name_alone(self):
        with self.assertRaises(TypeError):
            lets_rows(CLAUSES, ROWS, ())

    def test_what_is_handed_in_stays(self):
        clauses = list(CLAUSES)
        rows = list(ROWS)
        self.assertIs(lets_rows(clauses=clauses, rows=rows, end=()), True)
        self.assertIs(lets_rows(clauses, rows, end=(1,)), True)
        self.assertEqual((clauses, rows), (CLAUSES, ROWS))

    def test_what_is_let_by_follows(self):
        """Promise 3: rows of whatever make, many of them none, and all fillings."""
        chance = random.Random(5)
        pool = all_clauses(3)
        fillings = all_fillings(3)
        let_by = 0
        for time in range(3000):
            clauses = chance.sample(pool, chance.randint(1, 4))
            rows = [("told", chance.randrange(len(clauses))) for k in range(3)]
            for k in range(chance.randint(0, 3)):
                rows.append(("met", chance.randint(0, len(rows)), chance.randrange(len(rows)), chance.randint(1, 3)))
            end = chance.choice(pool)
            if lets_rows(clauses, rows, end=end):
                let_by += 1
                for filling in fillings:
                    if all(holds_by(clause, filling) for clause in clauses):
                        self.assertTrue(holds_by(end, filling), (clauses, rows, end))
        self.assertGreater(let_by, 50)


if __name__ == "__main__":
    unittest.main()
