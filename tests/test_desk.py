"""Promises 26 and 27: a desk that keeps houses and answers rows."""

import random
import re
import unittest

from keptclauses.desk import Desk
from keptclauses.errors import (
    KeptError, NoBox, NoChange, NoGate, NoKept, NoLine, NoMachine, NoName, NoText, NoWish, TooMany,
)
from keptclauses.house import House
from keptclauses.machines import Machine
from keptclauses.runs import wave
from keptclauses.texts import read, shown
from tests.small import counter, random_machine, small_machines
from tests.tools import NO_NUMBERS, STRANGE, deadline

TEXT = "boxes 2; inputs 1; starts -1 -2; and 1 3; next 1 4"
REFUSALS = (NoBox, NoChange, NoGate, NoKept, NoLine, NoMachine, NoName, NoText, NoWish, TooMany)

NAME = "([a-z]{1,6})"
NUMBER = "(0|[1-9][0-9]{0,2})"
SIGN = "(-?[1-9][0-9]{0,2})"
ROWS = [
    ("machine", f"machine {NAME} ([^\n]*)"), ("drop", f"drop {NAME}"), ("names", "names"), ("show", f"show {NAME}"),
    ("always", f"always {NAME} {NAME} {SIGN}"), ("again", f"again {NAME} {NAME} {SIGN}"),
    ("behind", f"behind {NAME} {NAME} {SIGN} {SIGN}"), ("answer", f"answer {NAME} {NAME}"), ("run", f"run {NAME} {NAME}"),
    ("clauses", f"clauses {NAME} {NAME}"), ("gate", f"gate {NAME} {NUMBER} (and|or|odd) {SIGN} {SIGN}"),
    ("next", f"next {NAME} {NUMBER} {SIGN}"), ("back", f"back {NAME} {NUMBER}"), ("words", f"words {NAME}"),
]


def example():
    """Two boxes; the first stays once it is, the second is what an input (3) says where the first one is (gate 4)."""
    return Machine(2, 1, [("and", 1, 3)], [1, 4], starts=[-1, -2])


def size_of(paper):
    return {"run": lambda: len(paper[1][1]), "round": lambda: len(paper[1][1]), "kept": lambda: len(paper[1]),
            "ranks": lambda: len(paper[3])}[paper[0]]()


def told_of(house, word, name):
    """What a desk tells of a paper, by hand."""
    paper = house.paper(name)
    if word == "answer":
        return f"{paper[0]} {size_of(paper)}"
    if word == "run":
        return wave(house.machine(), paper[1][:2]).replace("\n", "; ") if paper[0] in ("run", "round") else "-"
    clauses = paper[1] if paper[0] in ("kept", "ranks") else []
    return " ".join(",".join(map(str, clause)) for clause in clauses) or "-"


class ByHand:
    """A desk's houses, each told the same, by a reading of rows of its own."""

    def __init__(self):
        self.houses = {}

    def say(self, row):
        found = [(word, re.fullmatch(form, row)) for word, form in ROWS if isinstance(row, str)]
        found = [(word, match.groups()) for word, match in found if match]
        if not found:
            raise NoLine("")
        word, parts = found[0]
        if word == "machine":
            house = House(read(parts[1].replace("; ", "\n")))
            if len({*self.houses, parts[0]}) > 12:
                raise TooMany(13)
            self.houses[parts[0]] = house
            return "ok"
        if word == "names":
            return " ".join(sorted(self.houses)) or "-"
        if parts[0] not in self.houses:
            raise NoKept("")
        return self.done(word, self.houses[parts[0]], *parts)

    def done(self, word, house, name, *rest):
        if word == "show":
            return shown(house.machine()).replace("\n", "; ")
        if word == "words":
            return " ".join(f"{wish} {told}" for wish, told in sorted(house.words().items())) or "-"
        if word in ("answer", "run", "clauses"):
            return told_of(house, word, rest[0])
        if word == "drop":
            del self.houses[name]
        elif word == "gate":
            house.gate(int(rest[0]), (rest[1], int(rest[2]), int(rest[3])))
        elif word == "next":
            house.next(int(rest[0]), int(rest[1]))
        elif word == "back":
            house.back(many=int(rest[0]))
        else:
            house.wish(rest[0], (word, *map(int, rest[1:])))
        return "ok"


class DeskCase(unittest.TestCase):
    def desk(self, *rows):
        """A desk that was told some rows, each of which it answers with ok."""
        desk = Desk()
        for row in rows:
            self.assertEqual(desk.say(row), "ok", row)
        return desk

    def refused(self, kind, desk, row):
        with self.assertRaises(kind) as caught:
            desk.say(row)
        self.assertIs(type(caught.exception), kind, row)
        return caught.exception


class TestAnswers(DeskCase):
    def test_names(self):
        desk = Desk()
        self.assertEqual(desk.say("names"), "-")
        for name in ("b", "abcdef", "z", "a", "zz"):
            self.assertEqual(desk.say(f"machine {name} {TEXT}"), "ok")
        self.assertEqual(desk.say(row="names"), "a abcdef b z zz")
        self.assertEqual(desk.say("drop b"), "ok")
        self.assertEqual(desk.say("names"), "a abcdef z zz")
        for name in ("a", "abcdef", "z", "zz"):
            desk.say(f"drop {name}")
        self.assertEqual(desk.say("names"), "-")

    def test_show(self):
        desk = self.desk(f"machine a {TEXT}")
        self.assertEqual(desk.say("show a"), TEXT)
        desk.say("gate a 0 or -1 3")
        desk.say("next a 2 -4")
        self.assertEqual(desk.say("show a"), "boxes 2; inputs 1; starts -1 -2; or -1 3; next 1 -4")
        desk.say("machine b boxes 1; inputs 1; starts; promise 2; next 2")
        self.assertEqual(desk.say("show b"), "boxes 1; inputs 1; starts; promise 2; next 2")

    def test_each_machine_is_shown_as_it_was_told(self):
        for machine in small_machines(271, 100):
            text = shown(machine).replace("\n", "; ")
            self.assertEqual(self.desk(f"machine a {text}").say("show a"), text)

    def test_wishes_of_each_kind(self):
        desk = self.desk(f"machine a {TEXT}", "always a low -2", "always a high 2", "again a one 1", "again a none -1",
                         "behind a due 1 2", "behind a never -1 2")
        self.assertEqual(desk.say("words a"), "due ranks high run low kept never round none ranks one round")
        self.assertEqual(desk.say("answer a low"), "kept 2")
        self.assertIn(desk.say("clauses a low"), ("-1 -2", "-2 -1"))
        self.assertEqual(desk.say("run a low"), "-")
        self.assertEqual(desk.say("answer a high"), "run 1")
        self.assertIn(desk.say("run a high"), ("0; 0; 0; 0", "0; 0; 1; 0"))
        self.assertEqual(desk.say("clauses a high"), "-")
        self.assertEqual(desk.say("answer a one"), "round 1")
        self.assertIn(desk.say("run a one"), ("0; 0; 0; 0", "0; 0; 1; 0"))
        self.assertEqual(desk.say("answer a none"), "ranks 1")
        self.assertEqual(desk.say("clauses a none"), "-1")
        self.assertEqual(desk.say("run a none"), "-")
        self.assertRegex(desk.say("answer a never"), "round [1-9][0-9]*")
        # The wave has the machine's own things, not those of the watched one.
        self.assertEqual(len(desk.say("run a never").split("; ")), 4)

    def test_ranks_without_clauses(self):
        desk = self.desk("machine a boxes 1; inputs 0; starts; or 1 -1; next 1", "again a x 2", "behind a y 1 2")
        self.assertEqual((desk.say("answer a x"), desk.say("clauses a x"), desk.say("run a x")), ("ranks 1", "-", "-"))
        self.assertEqual(desk.say("words a"), "x ranks y ranks")

    def test_clauses_of_several_signs(self):
        # Where box 1 and box 2 aren't alike it would be harmed; both always get the same.
        desk = self.desk("machine a boxes 2; inputs 1; starts 1 2; odd 1 2; next 3 3", "always a x -4")
        clauses = desk.say("clauses a x")
        self.assertEqual(sorted(clauses.split(" ")), ["-1,2", "1,-2"])

    def test_words_of_none(self):
        self.assertEqual(self.desk(f"machine a {TEXT}").say("words a"), "-")

    def test_changes_and_back(self):
        desk = self.desk(f"machine a {TEXT}", "always a x -2", "next a 1 3")
        self.assertEqual(desk.say("words a"), "x run")
        self.assertEqual(desk.say("back a 1"), "ok")
        self.assertEqual(desk.say("words a"), "x kept")
        self.assertEqual(desk.say("back a 1"), "ok")
        self.assertEqual(desk.say("words a"), "-")
        self.assertEqual(self.desk(f"machine a {TEXT}", "next a 1 3", "gate a 0 or 1 2", "back a 2").say("show a"), TEXT)

    def test_a_house_in_the_stead_of_one_there(self):
        desk = self.desk(f"machine a {TEXT}", "always a x -2", "machine a boxes 1; inputs 0; starts; next 1")
        self.assertEqual((desk.say("names"), desk.say("words a")), ("a", "-"))
        self.assertEqual(desk.say("show a"), "boxes 1; inputs 0; starts; next 1")
        self.refused(NoChange, desk, "back a 1")

    def test_two_desks_side_by_side(self):
        one, other = Desk(), Desk()
        one.say(f"machine a {TEXT}")
        one.say("always a x -2")
        self.assertEqual(other.say("names"), "-")
        other.say(f"machine a {TEXT}")
        other.say("next a 1 3")
        self.assertEqual((one.say("show a"), one.say("words a"), other.say("words a")), (TEXT, "x kept", "-"))
        one.say("drop a")
        self.assertEqual(other.say("names"), "a")


class TestTwelve(DeskCase):
    def test_a_thirteenth_name(self):
        desk = self.desk(*[f"machine {name} {TEXT}" for name in "abcdefghijkl"])
        refusal = self.refused(TooMany, desk, f"machine m {TEXT}")
        self.assertEqual(refusal.size, 13)
        self.assertEqual(desk.say("names"), "a b c d e f g h i j k l")
        self.assertEqual(desk.say("machine l boxes 1; inputs 0; starts; next 1"), "ok")
        # What is refused of the text goes first.
        self.assertEqual(self.refused(NoText, desk, "machine m ").row, 0)
        self.assertEqual(self.refused(NoMachine, desk, "machine m boxes 0; inputs 0; starts; next 1").part, "boxes")
        self.refused(NoLine, desk, "machine mmmmmmm " + TEXT)
        desk.say("drop a")
        self.assertEqual(desk.say(f"machine m {TEXT}"), "ok")
        self.assertEqual(self.refused(TooMany, desk, f"machine a {TEXT}").size, 13)


class TestRefusals(DeskCase):
    def setUp(self):
        self.kept = self.desk(f"machine a {TEXT}", "always a x -2", "next a 1 1", f"machine b {TEXT}")
        self.asks = ["names", "show a", "words a", "show b", "words b", "answer a x", "clauses a x"]
        self.ahead = [self.kept.say(row) for row in self.asks]

    def tearDown(self):
        self.assertEqual([self.kept.say(row) for row in self.asks], self.ahead)
        # Two deeds of house a stand, none of house b.
        self.refused(NoChange, self.kept, "back a 3")
        self.refused(NoChange, self.kept, "back b 1")

    def test_no_text_and_line_feeds(self):
        for row in [*STRANGE, *NO_NUMBERS, 0, 1, b"names", ["names"], ("names",)]:
            self.assertIsInstance(self.refused(NoLine, self.kept, row), KeptError)
        for row in ("names\n", "\nnames", "show a\n", "drop a\nnames", f"machine a {TEXT}\n", "machine c " + TEXT.replace("; ", "\n"),
                    "machine c \n", "\n", "machine c boxes 1; inputs 0;\nstarts; next 1"):
            self.refused(NoLine, self.kept, row)

    def test_rows_that_are_none(self):
        for row in ["", " ", "Names", "names ", " names", "names a", "name", "shows a", "show", "show ", "show  a", "show a ", "show a b",
                    "drop", "drop a b", "words", "words a x", "machine", "machine a", "machine  ", "machine  a", f" machine a {TEXT}",
                    "always a x", "always a x -2 1", "always a x  -2", "always a -2", "again a x", "again a x 1 2", "behind a x 1",
                    "behind a x 1 2 3", "answer a", "answer a x y", "answer", "run a", "run a x 1", "clauses a", "clauses a x x",
                    "gate a 0 and 1", "gate a 0 and 1 2 3", "gate a and 1 2", "next a 1", "next a 1 1 1", "next a", "back a", "back a 1 1",
                    "starts a 1", "together a", "used a x", "twin a", "wish a x always 1", "show\ta", "names\t", "show a\t", "wishes a",
                    "len a", ";", "show; a", "SHOW a", "ranks a x", "ever a x 1"]:
            self.refused(NoLine, self.kept, row)

    def test_names_that_are_none(self):
        for name in ("A", "aB", "abcdefg", "a1", "1", "-", "a-", "a_b", "\xe4", "", "a;", "\u0430"):
            for row in ("show {}", "drop {}", "words {}", "always {} x 1", "always a {} 1", "again {} x 1", "again a {} 1",
                        "behind {} x 1 1", "behind a {} 1 1", "answer {} x", "answer a {}", "run {} x", "run a {}", "clauses {} x",
                        "clauses a {}", "gate {} 0 and 1 1", "next {} 1 1", "back {} 1", "machine {} " + TEXT, "machine {} x"):
                self.refused(NoLine, self.kept, row.format(name))

    def test_numbers_signs_and_gates_that_are_none(self):
        for word in ("+1", "01", "00", "1000", "-1000", "a", "1.0", "-", "--1", "-01", "1_0", "\u0661", "", "-0"):
            for row in ("always a y {}", "again a y {}", "behind a y {} 1", "behind a y 1 {}", "gate a 0 and {} 1", "gate a 0 and 1 {}",
                        "next a 1 {}", "gate a {} and 1 1", "next a {} 1", "back a {}"):
                self.refused(NoLine, self.kept, row.format(word))
        for row in ("always a y 0", "again a y 0", "behind a y 0 1", "behind a y 1 0", "gate a 0 and 0 1", "gate a 0 and 1 0",
                    "next a 1 0", "gate a -1 and 1 1", "next a -1 1", "back a -1"):
            self.refused(NoLine, self.kept, row)
        for word in ("nor", "And", "not", "next", "1", "", "an", "odds", "and;"):
            self.refused(NoLine, self.kept, f"gate a 0 {word} 1 1")

    def test_then_no_kept(self):
        for row in ("drop c", "show c", "words c", "always c x 1", "always c x 999", "again c x 1", "behind c x 1 1", "answer c x",
                    "answer c zz", "run c x", "clauses c x", "gate c 0 and 1 1", "gate c 999 and 999 1", "next c 1 1", "next c 0 1",
                    "back c 1", "back c 0", "drop aa", "show names"):
            self.assertIsInstance(self.refused(NoKept, self.kept, row), LookupError)
        # What is no row goes ahead.
        for row in ("drop c c", "always c x 0", "gate c 0 nor 1 1", "next c 01 1", "always c X 1", "show C"):
            self.refused(NoLine, self.kept, row)

    def test_then_what_the_points_refuse(self):
        for row, kind in [
            ("always a y 5", NoWish), ("always a y -999", NoWish), ("again a y 5", NoWish), ("behind a y 5 1", NoWish),
            ("behind a y 1 -5", NoWish), ("always a x 5", NoWish), ("answer a y", NoName), ("run a y", NoName), ("clauses a y", NoName),
            ("answer b x", NoName), ("gate a 1 and 1 1", NoGate), ("gate a 999 and 999 999", NoGate), ("next a 0 1", NoBox),
            ("next a 3 1", NoBox), ("next a 999 999", NoBox), ("back a 0", NoChange), ("back a 3", NoChange), ("back a 999", NoChange),
            ("back b 1", NoChange),
        ]:
            self.refused(kind, self.kept, row)
        for row, part, number in [("gate a 0 and 1 4", "gates", 0), ("gate a 0 and -999 1", "gates", 0), ("next a 1 5", "nexts", 0),
                                  ("next a 2 -999", "nexts", 1)]:
            refusal = self.refused(NoMachine, self.kept, row)
            self.assertEqual((refusal.part, refusal.number), (part, number))

    def test_texts_that_are_refused(self):
        for name in ("a", "c"):
            for text, row in [
                ("", 0), (" ", 0), ("boxes", 0), ("boxes 1", 1), ("boxes 1; ", 1), ("boxes 1;", 0), ("boxes 1 ; inputs 0", 0),
                ("boxes 1;inputs 0", 0), ("boxes 1;  inputs 0", 1), ("boxes  1", 0), (" boxes 1", 0), ("boxes 1; inputs 0; starts ", 2),
                (TEXT + " ", 4), (TEXT + "; ", 5), (TEXT + ";", 4), (TEXT + "; next 1 4", 5), (TEXT.replace("; ", ";; "), 0),
                ("boxes 1; starts; next 1", 1), ("x", 0), ("; ", 0), (TEXT.replace("; starts", "; \tstarts"), 2), (TEXT + "\t", 4),
                ("boxes 2; inputs 1; starts -1 -2; and 1 3", 4),
            ]:
                self.assertEqual(self.refused(NoText, self.kept, f"machine {name} {text}").row, row, text)
            refusal = self.refused(NoMachine, self.kept, f"machine {name} boxes 1; inputs 0; starts; or 1 2; next 2")
            self.assertEqual((refusal.part, refusal.number), ("gates", 0))

    def test_a_ninth_wish(self):
        desk = self.desk(f"machine a {TEXT}", *[f"always a {name} 1" for name in "abcdefgh"])
        self.assertEqual(self.refused(TooMany, desk, "again a i 1").size, 9)
        self.assertEqual(desk.say("again a h 1"), "ok")

    def test_what_must_come_behind_in_machines_too_great(self):
        text = "boxes 10; inputs 0; starts; next" + " 1" * 10
        desk = self.desk(f"machine a {text}", "behind a x 1 2", "always a y 1")
        for row in ("words a", "answer a x", "run a x", "clauses a x"):
            self.assertEqual(self.refused(TooMany, desk, row).size, 10)
        self.assertEqual(desk.say("answer a y"), "run 1")


class TestAgainstHouses(DeskCase):
    def both(self, desk, hand, row):
        """That a desk answers or refuses a row as houses do that are told the same."""
        try:
            due = hand.say(row)
        except REFUSALS as refusal:
            told = self.refused(type(refusal), desk, row)
            fields = [(name, getattr(refusal, name)) for name in ("part", "number", "row", "size") if hasattr(refusal, name)]
            self.assertEqual([(name, getattr(told, name)) for name, value in fields], fields)
            return False
        answer = desk.say(row)
        self.assertIs(type(answer), str)
        self.assertEqual(answer, due, row)
        return True

    def test_many_rows(self):
        chance = random.Random(272)
        texts = [shown(machine).replace("\n", "; ") for machine in small_machines(273, 80)]
        answered = []
        for number in range(40):
            desk, hand = Desk(), ByHand()
            for turn in range(120):
                row = some_row(chance, texts)
                if self.both(desk, hand, row):
                    answered.append(row.split(" ")[0])
        for word, form in ROWS:
            self.assertGreater(answered.count(word), 15, word)

    def test_ten_boxes_four_inputs_and_twenty_four_gates(self):
        chance = random.Random(274)
        desk, hand = Desk(), ByHand()
        with deadline(120):
            for name in "abc":
                machine = random_machine(chance, 10, 4, 24, starts=9, promises=1)
                self.both(desk, hand, f"machine {name} " + shown(machine).replace("\n", "; "))
                for turn in range(3):
                    for wish in "xyz":
                        sign = chance.choice((1, -1)) * chance.randint(1, 38)
                        self.both(desk, hand, f"{chance.choice(('always', 'again'))} {name} {wish} {sign}")
                        for word in ("answer", "run", "clauses"):
                            self.both(desk, hand, f"{word} {name} {wish}")
                    self.both(desk, hand, f"words {name}")
                    self.both(desk, hand, f"next {name} {chance.randint(1, 10)} {chance.randint(1, 38)}")
                self.both(desk, hand, f"back {name} 1")
                self.both(desk, hand, f"show {name}")

    def test_many_ranks(self):
        machine, full = counter(8)
        desk = self.desk("machine a " + shown(machine).replace("\n", "; "), f"again a x {full}", f"always a y -{full}")
        self.assertEqual((desk.say("answer a x"), desk.say("answer a y")), ("ranks 256", "run 256"))
        waves = desk.say("run a y").split("; ")
        self.assertEqual((len(waves), waves[0], waves[7]), (len(machine), "01" * 128, "0" * 128 + "1" * 128))


def some_row(chance, texts):
    """A row, mostly one that some desk would answer."""
    name, wish = chance.choice("aab"), chance.choice("xxyz")
    sign, other = [chance.choice((1, -1)) * chance.randint(1, 4) for turn in range(2)]
    row = chance.choice([
        f"machine {name} {chance.choice(texts)}", f"machine {chance.choice('abcdefghijklmn')} {chance.choice(texts)}",
        f"drop {chance.choice('bc')}", "names", f"show {name}", f"always {name} {wish} {sign}", f"again {name} {wish} {sign}",
        f"behind {name} {wish} {sign} {other}", *[f"{word} {name} {wish}" for word in ("answer", "run", "clauses") * 2],
        f"gate {name} {chance.randint(0, 2)} {chance.choice(('and', 'or', 'odd'))} {sign} {other}",
        f"next {name} {chance.randint(0, 3)} {sign}", f"back {name} {chance.randint(0, 2)}", f"words {name}"])
    if chance.random() < 0.1:
        place = chance.randrange(len(row) + 1)
        row = row[:place] + chance.choice(" \n\t-+0123456789;abxA") + row[place + chance.randrange(2):]
    return row


if __name__ == "__main__":
    unittest.main()
