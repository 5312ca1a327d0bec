"""Promise 9: runs, their stands, fillings and waves."""

import itertools
import random
import unittest

from keptclauses.errors import KeptError, NoNumber, NoRun, NoWord
from keptclauses.machines import Machine
from keptclauses.runs import cut, fillings, is_run, stands, told_on, wave
from tests.tools import NO_NUMBERS, STRANGE, all_fillings

NO, YES = (False,), (True,)


def counter():
    """Two boxes that count the beats whose input says yes, from naught on; the input is thing 3."""
    return Machine(2, 1, [("odd", 1, 3), ("and", 1, 3), ("odd", 2, 5)], [4, 6], starts=[-1, -2])


def held():
    """A box that takes up the first of two inputs, of which one at least comes; begins with yes."""
    return Machine(1, 2, [], [2], starts=(1,), promises=[(2, 3)])


# Of `held`, none of these is a run.
NO_RUNS = [
    *STRANGE, 0, 1, True, False, (), (YES,), (YES, [(True, True)], 0), [YES, [(True, True)]], (YES, []), (YES, ()),
    (YES, ((True, True),)), (YES, (True, True)), (YES, None), (YES, [None]), (YES, [(True,)]), (YES, [(False, False)]),
    (YES, [(True, True), (False, False)]), (YES, [(True, True), (True, True, True)]), (YES, [[True, True]]),
    (YES, [(1, 1)]), (YES, [(True, 1)]), (NO, [(True, True)]), ((1,), [(True, True)]), ((), [(True, True)]),
    ((True, True), [(True, True)]), ([True], [(True, True)]), (True, [(True, True)]), (None, [(True, True)]),
    ([(True, True)], YES), (YES, {0: (True, True)}), (YES, "11"), (YES, [(True, True), None]), {YES: [(True, True)]},
]


class TestIsRun(unittest.TestCase):
    def test_runs(self):
        machine = held()
        for length in (1, 2, 3):
            for words in itertools.product(all_fillings(2), repeat=length):
                due = (False, False) not in words
                self.assertIs(is_run(machine, (YES, list(words))), due)
                self.assertIs(is_run(machine, (NO, list(words))), False)

    def test_any_beginning(self):
        machine = Machine(2, 0, [], [1, 2], starts=[-2])
        for stand in all_fillings(2):
            self.assertIs(is_run(machine, (stand, [()])), stand[1] is False)

    def test_how_many_beats(self):
        machine = held()
        for beats, due in [(0, False), (1, True), (2, True), (1999, True), (2000, True), (2001, False), (2002, False)]:
            self.assertIs(is_run(machine, (YES, [(True, True)] * beats)), due, beats)

    def test_a_word_that_is_none_at_the_end_of_a_long_run(self):
        self.assertIs(is_run(held(), (YES, [(True, True)] * 1999 + [(False, False)])), False)

    def test_of_anything(self):
        for thing in NO_RUNS:
            self.assertIs(is_run(held(), thing), False, thing)
        self.assertIs(is_run(thing=(YES, [(True, False)]), machine=held()), True)


class TestTold(unittest.TestCase):
    def test_a_counter_by_hand(self):
        run = ((False, False), [YES, YES, NO, YES, YES])
        machine = counter()
        self.assertEqual(stands(machine, run), [
            (False, False), (True, False), (False, True), (False, True), (True, True), (False, False),
        ])
        self.assertEqual(fillings(machine, run), [
            (False, False, True, True, False, False),
            (True, False, True, False, True, True),
            (False, True, False, False, False, True),
            (False, True, True, True, False, True),
            (True, True, True, False, True, False),
        ])
        self.assertEqual(wave(machine, run), "01001\n00111\n11011\n10010\n01001\n01110")

    def test_one_beat(self):
        run = (YES, [(False, True)])
        self.assertEqual(stands(held(), run), [YES, NO])
        self.assertEqual(fillings(held(), run), [(True, False, True)])
        self.assertEqual(wave(held(), run), "1\n0\n1")

    def test_a_machine_without_inputs(self):
        machine = Machine(1, 0, [], [-1])
        self.assertEqual(stands(machine, (NO, [(), (), ()])), [NO, YES, NO, YES])
        self.assertEqual(wave(machine, (NO, [(), (), ()])), "010")

    def test_beat_by_beat(self):
        chance = random.Random(4)
        machine = counter()
        for time in range(50):
            words = [chance.choice((NO, YES)) for k in range(chance.randint(1, 20))]
            run = ((False, False), words)
            stand = run[0]
            due_stands, due_fillings = [stand], []
            for word in words:
                due_fillings.append(machine.filling(stand, word))
                stand = machine.behind(stand, word)
                due_stands.append(stand)
            self.assertEqual(stands(machine, run), due_stands)
            self.assertEqual(fillings(machine, run), due_fillings)
            rows = wave(machine, run).split("\n")
            self.assertEqual(len(rows), len(machine))
            for place, row in enumerate(rows):
                self.assertEqual(row, "".join("01"[filling[place]] for filling in due_fillings))

    def test_two_thousand_beats(self):
        run = ((False, False), [YES] * 2000)
        machine = counter()
        self.assertEqual(len(stands(machine, run)), 2001)
        self.assertEqual(stands(machine, run)[-1], (False, False))
        self.assertEqual(len(fillings(machine, run)), 2000)
        self.assertEqual(wave(machine, run).split("\n")[:3], ["01" * 1000, "0011" * 500, "1" * 2000])

    def test_no_run(self):
        machine = held()
        for ask in (stands, fillings, wave):
            for thing in [*NO_RUNS, (YES, [(True, True)] * 2001)]:
                with self.assertRaises(NoRun) as caught:
                    ask(machine, thing)
                self.assertIsInstance(caught.exception, KeptError)
            ask(machine=machine, run=(YES, [(True, True)]))


class TestToldOn(unittest.TestCase):
    def test_the_longer_run(self):
        machine = held()
        run = (YES, [(True, False), (False, True)])
        for words in [[], [(True, True)], [(False, True), (True, False), (True, True)]]:
            told = told_on(machine, run, words)
            self.assertEqual(told, (YES, [(True, False), (False, True), *words]))
            self.assertIs(is_run(machine, told), True)
        self.assertEqual(told_on(words=[(True, True)], run=run, machine=machine)[1][2:], [(True, True)])

    def test_as_many_beats_as_there_may_be(self):
        machine = held()
        word = (True, True)
        for ahead, more in [(1, 1999), (1999, 1), (2000, 0), (1000, 1000)]:
            self.assertEqual(told_on(machine, (YES, [word] * ahead), [word] * more), (YES, [word] * 2000))
        for ahead, more in [(1, 2000), (1999, 2), (2000, 1), (1001, 1000), (1, 2001)]:
            with self.assertRaises(NoWord):
                told_on(machine, (YES, [word] * ahead), [word] * more)

    def test_no_words(self):
        machine = held()
        word = (True, True)
        for words in [*STRANGE, 0, 1, True, False, (), (word,), word, [True, True], [(True,)], [(False, False)],
                      [word, (False, False)], [word, None], [(1, 1)], [(True, 1)], [[True, True]], {0: word}, "11"]:
            with self.assertRaises(NoWord) as caught:
                told_on(machine, (YES, [word]), words)
            self.assertIsInstance(caught.exception, KeptError)

    def test_no_run_goes_first(self):
        for thing in [*NO_RUNS, (YES, [(True, True)] * 2001)]:
            for words in ([], [(True, True)], None, [None], [(True, True)] * 2001):
                with self.assertRaises(NoRun):
                    told_on(held(), thing, words)


class TestCut(unittest.TestCase):
    def test_its_beginning(self):
        machine = held()
        words = [(True, False), (False, True), (True, True)]
        for beats in (1, 2, 3):
            told = cut(machine, (YES, words), beats)
            self.assertEqual(told, (YES, words[:beats]))
            self.assertIs(is_run(machine, told), True)
        self.assertEqual(cut(beats=1, machine=machine, run=(YES, words)), (YES, words[:1]))
        self.assertEqual(len(cut(machine, (YES, [(True, True)] * 2000), 2000)[1]), 2000)

    def test_no_number_of_beats(self):
        for beats in [*NO_NUMBERS, 0, -1, -3, 4, 5, 10 ** 40]:
            with self.assertRaises(NoNumber):
                cut(held(), (YES, [(True, True)] * 3), beats)

    def test_no_run_goes_first(self):
        for thing in NO_RUNS:
            for beats in (1, 0, None):
                with self.assertRaises(NoRun):
                    cut(held(), thing, beats)


class TestOwnLists(unittest.TestCase):
    def test_what_is_handed_in_stays_and_told_lists_are_the_askers_own(self):
        machine = counter()
        words = [YES, NO, YES]
        run = ((False, False), words)
        for ask in (stands, fillings):
            told = ask(machine, run)
            due = list(told)
            told.append(None)
            told[0] = None
            self.assertEqual(ask(machine, run), due)
        wave(machine, run)
        self.assertEqual(run, ((False, False), [YES, NO, YES]))

    def test_a_run_told_on_or_cut_has_a_list_of_its_own(self):
        machine = counter()
        words, more = [YES, NO], [YES]
        run = ((False, False), words)
        for told in [told_on(machine, run, []), told_on(machine, run, more), cut(machine, run, 1), cut(machine, run, 2)]:
            told[1].append(None)
            told[1][0] = None
            self.assertEqual((words, more), ([YES, NO], [YES]))
        longer = told_on(machine, run, more)
        shorter = cut(machine, run, 2)
        words.clear()
        more.clear()
        self.assertEqual(longer, ((False, False), [YES, NO, YES]))
        self.assertEqual(shorter, ((False, False), [YES, NO]))


if __name__ == "__main__":
    unittest.main()
