"""Promise 25: machines as texts."""

import random
import re
import unittest

from keptclauses.errors import KeptError, NoMachine, NoText
from keptclauses.machines import Machine
from keptclauses.texts import read, shown
from tests.small import random_machine, small_machines
from tests.tools import NO_NUMBERS, STRANGE

TEXT = "boxes 2\ninputs 1\nstarts -1 2\npromise -3\nand 1 -3\nnext 4 -1"
NUMBER = "(?:0|[1-9][0-9]{0,2})"
SIGN = "-?[1-9][0-9]{0,2}"
# Whatever stands ahead of a row, word for word as the document tells it.
AHEAD = re.compile(
    f"boxes {NUMBER}(?:\ninputs {NUMBER}(?:\nstarts(?: {SIGN})*(?:\npromise(?: {SIGN})+)*(?:\n(?:and|or|odd) {SIGN} {SIGN})*"
    f"(\nnext(?: {SIGN})+)?)?)?")


def example():
    return Machine(2, 1, [("and", 1, -3)], [4, -1], starts=[-1, 2], promises=[(-3,)])


def wrong_row(text):
    """The row that can't stand there, or how many there are; None where it is a text of a machine."""
    rows = text.split("\n")
    for number in range(len(rows)):
        if not AHEAD.fullmatch("\n".join(rows[:number + 1])):
            return number
    return None if AHEAD.fullmatch(text)[1] else len(rows)


def numbers(row):
    return [int(word) for word in row.split(" ")[1:]]


def made_of(text):
    """What a machine is made of, from a text that is one."""
    rows = text.split("\n")
    gates = [tuple(row.split(" ")) for row in rows if re.match("and|or|odd", row)]
    return {
        "boxes": numbers(rows[0])[0], "inputs": numbers(rows[1])[0], "nexts": numbers(rows[-1]), "starts": numbers(rows[2]),
        "gates": [(word, int(one), int(other)) for word, one, other in gates],
        "promises": [tuple(numbers(row)) for row in rows if row.startswith("promise")],
    }


class TextCase(unittest.TestCase):
    def refused(self, text, row):
        with self.assertRaises(NoText) as caught:
            read(text)
        self.assertEqual(caught.exception.row, row, text)
        self.assertIsInstance(caught.exception, KeptError)

    def no_machine(self, text, part, number):
        with self.assertRaises(NoMachine) as caught:
            read(text)
        self.assertEqual((caught.exception.part, caught.exception.number), (part, number), text)


class TestShown(TextCase):
    def test_sign_by_sign(self):
        self.assertEqual(shown(example()), TEXT)
        self.assertEqual(shown(machine=Machine(1, 0, [], [-1])), "boxes 1\ninputs 0\nstarts\nnext -1")
        machine = Machine(3, 2, [("odd", 1, 5), ("or", -6, -6), ("and", 7, 2)], [8, -8, 3], starts=(3, -1), promises=[(4,), (-4, 5)])
        self.assertEqual(shown(machine), "boxes 3\ninputs 2\nstarts 3 -1\npromise 4\npromise -4 5\nodd 1 5\nor -6 -6\nand 7 2\n"
                                         "next 8 -8 3")

    def test_the_largest(self):
        machine = random_machine(random.Random(261), 10, 4, 24, starts=10, promises=3)
        text = shown(machine)
        self.assertEqual(text.split("\n")[:2], ["boxes 10", "inputs 4"])
        self.assertEqual(len(text.split("\n")), 3 + 3 + 24 + 1)
        self.assertEqual(read(text), machine)

    def test_read_back(self):
        for machine in small_machines(262, 300):
            text = shown(machine)
            self.assertIs(type(text), str)
            self.assertIsNone(wrong_row(text))
            told = read(text)
            self.assertIs(type(told), Machine)
            self.assertEqual(told, machine)
            self.assertEqual(shown(told), text)


class TestRead(TextCase):
    def test_example(self):
        self.assertEqual(read(text=TEXT), example())
        self.assertEqual(read("boxes 1\ninputs 0\nstarts\nnext 1"), Machine(1, 0, [], [1]))

    def test_no_text_at_all(self):
        for thing in [*STRANGE, *NO_NUMBERS, 0, 5, b"boxes 1", TEXT.encode(), [TEXT], TEXT.split("\n")]:
            self.refused(thing, 0)

    def test_rows_left_out(self):
        rows = TEXT.split("\n")
        for number, row in [(0, 0), (1, 1), (2, 2), (5, 5)]:
            self.refused("\n".join(rows[:number] + rows[number + 1:]), row)
        for many in range(6):
            self.refused("\n".join(rows[:many]), many)
        self.assertEqual(read("\n".join(rows[:4] + ["next 1 1"])).gates(), [])
        self.assertEqual(read("\n".join(rows[:3] + rows[4:])).promises(), [])

    def test_rows_twice(self):
        rows = TEXT.split("\n")
        for number, row in [(0, 1), (1, 2), (2, 3), (5, 6)]:
            self.refused("\n".join(rows[:number + 1] + rows[number:]), row)
        self.assertEqual(read("\n".join(rows[:4] + rows[3:])).promises(), [(-3,), (-3,)])
        self.assertEqual(read("\n".join(rows[:5] + rows[4:])).gates(), [("and", 1, -3)] * 2)

    def test_rows_exchanged(self):
        rows = TEXT.split("\n")
        for number in range(5):
            self.refused("\n".join(rows[:number] + [rows[number + 1], rows[number]] + rows[number + 2:]),
                         # Where a promise is left out a gate can stand, and behind that no promise.
                         number + 1 if number in (3, 4) else number)

    def test_what_stands_behind_next(self):
        for row in ("", "next 4 -1", "and 1 1", "boxes 2", "starts", " ", "x"):
            self.refused(f"{TEXT}\n{row}", 6)
        self.refused(TEXT + "\n\n", 6)

    def test_empty_rows_and_words(self):
        rows = TEXT.split("\n")
        for number in range(6):
            self.refused("\n".join(rows[:number] + [""] + rows[number:]), number)
            for bent in (" " + rows[number], rows[number] + " ", rows[number].replace(" ", "  ", 1),
                         rows[number].replace(" ", "\t", 1), rows[number] + "\t", rows[number] + "\r", rows[number].upper(),
                         rows[number] + " x", rows[number].replace(" ", "", 1), "x" + rows[number], rows[number] + ";"):
                self.refused("\n".join(rows[:number] + [bent] + rows[number + 1:]), number)
        self.refused("", 0)
        self.refused("\n", 0)
        self.refused("\n" + TEXT, 0)
        self.refused("boxes 1\ninputs 0\nstarts \nnext 1", 2)

    def test_too_many_and_too_few_words(self):
        rows = TEXT.split("\n")
        for number, row in [(0, "boxes"), (0, "boxes 2 2"), (1, "inputs"), (1, "inputs 1 1"), (3, "promise"), (4, "and"),
                            (4, "and 1"), (4, "and 1 1 1"), (5, "next")]:
            self.refused("\n".join(rows[:number] + [row] + rows[number + 1:]), number)
        self.assertEqual(read("\n".join(rows[:2] + ["starts"] + rows[3:])).starts(), [])

    def test_what_is_no_number(self):
        rows = TEXT.split("\n")
        for word in ("00", "01", "002", "1000", "0000", "+1", "-1", "-0", "1.0", "1e0", "0x1", "1_0", "one", "\u0661", "\xb2", "",
                     "--1", "10 ", "12345678901234567890"):
            for number, name in ((0, "boxes"), (1, "inputs")):
                self.refused("\n".join(rows[:number] + [f"{name} {word}"] + rows[number + 1:]), number)

    def test_what_is_no_sign(self):
        rows = TEXT.split("\n")
        for word in ("0", "-0", "00", "01", "-01", "1000", "-1000", "+1", "--1", "-", "1-", "- 1", "1.0", "1_0", "a", "\u0661", ""):
            for number, row in ((2, "starts {}"), (2, "starts 1 {}"), (3, "promise {}"), (3, "promise -3 {}"), (4, "and {} 1"),
                                (4, "and 1 {}"), (5, "next {} 1"), (5, "next 1 {}"), (5, "next 1 2 {}")):
                self.refused("\n".join(rows[:number] + [row.format(word)] + rows[number + 1:]), number)

    def test_then_no_machine(self):
        for old, new, part, number in [
            ("boxes 2", "boxes 0", "boxes", None), ("boxes 2", "boxes 11", "boxes", None), ("boxes 2", "boxes 999", "boxes", None),
            ("inputs 1", "inputs 5", "inputs", None), ("inputs 1", "inputs 100", "inputs", None),
            ("starts -1 2", "starts 3", "starts", 0), ("starts -1 2", "starts 1 -1", "starts", 1),
            ("starts -1 2", "starts 1 999", "starts", 1), ("promise -3", "promise 1", "promises", 0),
            ("promise -3", "promise 3\npromise 4", "promises", 1), ("promise -3", "promise 3 -3", "promises", 0),
            ("promise -3", "promise 3\npromise -3", "promises", None), ("promise -3", "promise -999", "promises", 0),
            ("promise -3", "\n".join(["promise 3"] * 9), "promises", None), ("and 1 -3", "and 1 4", "gates", 0),
            ("and 1 -3", "or 1 2\nodd 5 -999", "gates", 1), ("and 1 -3", "\n".join(["and 1 1"] * 25), "gates", None),
            ("next 4 -1", "next 4", "nexts", None), ("next 4 -1", "next 4 1 1", "nexts", None), ("next 4 -1", "next 1 5", "nexts", 1),
            ("next 4 -1", "next -999 5", "nexts", 0),
        ]:
            self.no_machine(TEXT.replace(old, new), part, number)
        # The text is looked at as a whole ahead of the machine.
        self.refused(TEXT.replace("boxes 2", "boxes 0") + "\n", 6)
        self.no_machine(TEXT.replace("boxes 2", "boxes 0").replace("next 4 -1", "next 9"), "boxes", None)

    def test_bent_texts(self):
        chance = random.Random(263)
        texts = [shown(machine) for machine in small_machines(264, 60)] + [TEXT]
        refused = told = unmade = 0
        for number in range(6000):
            text = bent(chance, chance.choice(texts))
            due = wrong_row(text)
            if due is not None:
                self.refused(text, due)
                refused += 1
                continue
            parts = made_of(text)
            try:
                machine = Machine(**parts)
            except NoMachine as no:
                self.no_machine(text, no.part, no.number)
                unmade += 1
            else:
                self.assertEqual(read(text), machine)
                told += 1
        self.assertGreater(min(refused, told, unmade), 200)


def bent(chance, text):
    """A text with some signs, words or rows changed."""
    for turn in range(chance.randint(1, 2)):
        rows = text.split("\n")
        choice = chance.randrange(4)
        if choice == 0:
            place = chance.randrange(len(text) + 1)
            text = text[:place] + chance.choice(" \n\t-+0123456789;abx") + text[place + chance.randrange(2):]
        elif choice == 1:
            rows[chance.randrange(len(rows))] = chance.choice(rows + ["", "starts", "next 1", "and 1 1", "promise 3", "x"])
            text = "\n".join(rows)
        elif choice == 2:
            words = re.split("([ \n])", text)
            place = chance.randrange(0, len(words), 2)
            words[place] = chance.choice(("1", "-1", "2", "0", "12", "-999", "1000", "and", "odd", "next", "", "01"))
            text = "".join(words)
        else:
            rows.insert(chance.randrange(len(rows) + 1), chance.choice(rows))
            del rows[chance.randrange(len(rows))]
            text = "\n".join(rows)
    return text


if __name__ == "__main__":
    unittest.main()
