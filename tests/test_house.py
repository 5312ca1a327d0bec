"""Promise 22: houses of a machine that is changed, and wishes for it by names."""

import copy
import random
import unittest
import unittest.mock

from keptclauses.answers import answer, lets_answer
from keptclauses.errors import (
    KeptError, NoBox, NoChange, NoDeeds, NoGate, NoMachine, NoName, NoWish, TooMany,
)
from keptclauses.house import House
from keptclauses.machines import Machine
from keptclauses.watching import watched
from tests.small import Walked, all_signs, counter, even, random_machine, small_machines
from tests.test_answers import NO_WISHES, empty, pending_for_ever
from tests.test_watching import sized
from tests.tools import NO_NUMBERS, STRANGE, Odd, deadline, holds_by

# Two of the strange things, "told" and "always", would do as names.
NO_NAMES = [*[thing for thing in NO_NUMBERS if thing not in ("told", "always")], 0, 1, "abcdefg", "A", "aB", "a1", "a b", " a", "a ", "a\n", "\na", "-", "_", "a_b", "\xe4",
            "\u0430", b"a", ["a"], ("a",), "\xaa", "\xdf"]
# By these a machine of two boxes, an input and one gate, thing 4, has no gate, no next, no starts.
NO_GATES = [*STRANGE, *NO_NUMBERS, 1, (), ("and",), ("and", 1), ("and", 1, 2, 3), ["and", 1, 2], ("nor", 1, 2), ("and", 0, 1),
            ("and", 1, 0), ("and", 4, 1), ("or", 1, -4), ("odd", 1, True), ("and", None, 1), (Odd(), 1, 2), (["and"], 1, 2)]
NO_SIGNS = [*NO_NUMBERS, 0, 5, -5, 61, 10 ** 50]
NO_STARTS = [
    (5, None), (None, None), ("", None), ({1: 2}, None), (True, None), (range(2), None), ([3], 0), ([1, 2, -1], 2),
    ((1, 1), 1), ([None], 0), ([1, 0], 1), ((2, True), 1), ([-1, -2, 1, 1], 2), ([[1]], 0),
]


def example():
    """Two boxes; the first stays once it is, the second is what an input (3) says where the first one is (gate 4)."""
    return Machine(2, 1, [("and", 1, 3)], [1, 4], starts=[-1, -2])


def changed(machine, *, gates=None, nexts=None, starts=None):
    """A machine that differs in one part."""
    return Machine(
        machine.boxes(), machine.inputs(), machine.gates() if gates is None else gates,
        machine.nexts() if nexts is None else nexts, starts=machine.starts() if starts is None else starts,
        promises=machine.promises())


def most_kept(machine, clauses):
    """How many of some clauses still are kept, by a going through of all stands."""
    walked = Walked(machine)
    told = [clause for clause in clauses if all(holds_by(clause, stand) for stand in walked.beginnings)]
    while True:
        ends = [walked.behind(stand, word) for stand in walked.held(told) for word in walked.words]
        fewer = [clause for clause in told if all(holds_by(clause, end) for end in ends)]
        if len(fewer) == len(told):
            return len(told)
        told = fewer


def kept_clauses(paper):
    return paper[1] if paper[0] in ("kept", "ranks") else []


def clauses_machine(machine, wish):
    return watched(machine, wish[1], wish[2])[0] if wish[0] == "behind" else machine


def due_word(machine, wish):
    """The word of a wish's paper, by a going through of all stands that are come to."""
    walked = Walked(machine)
    if wish[0] == "always":
        return "kept" if walked.harm(wish[1]) is None else "run"
    if wish[0] == "again":
        return "round" if walked.lacks(wish[1], walked.come_to()) is None else "ranks"
    return "round" if pending_for_ever(walked, wish[1], wish[2]) else "ranks"


def seen(house):
    """All that a house tells, but for papers."""
    wishes = house.wishes()
    used = {name: house.used(name) for name in wishes}
    return house.machine(), list(wishes.items()), used, list(house.words().items()), len(house)


class Replay:
    """A house that is told simple deeds one by one, and asked ahead of each change."""

    def __init__(self, machine):
        self.house = House(machine)
        self.ahead = {}
        self.order = []

    def do(self, deed):
        word, *arguments = deed
        if word in ("gate", "next", "starts"):
            self.ahead = {name: self.house.paper(name) for name in self.house.wishes()}
        else:
            self.ahead.pop(arguments[0], None)
        if word == "wish" and arguments[0] not in self.order:
            self.order.append(arguments[0])
        if word == "drop":
            self.order.remove(arguments[0])
        getattr(self.house, word)(*arguments)

    def used(self, name):
        clauses = kept_clauses(self.ahead[name]) if name in self.ahead else []
        return most_kept(clauses_machine(self.house.machine(), self.house.wishes()[name]), clauses)


def replayed(machine, steps):
    """A replay of steps, each a list of simple deeds."""
    told = Replay(machine)
    for step in steps:
        for deed in step:
            told.do(deed)
    return told


class HouseCase(unittest.TestCase):
    def refused(self, kind, call, *arguments, **named):
        with self.assertRaises(kind) as caught:
            call(*arguments, **named)
        self.assertIs(type(caught.exception), kind)
        return caught.exception


class TestDeeds(HouseCase):
    def test_a_new_house(self):
        house = House(example())
        self.assertEqual(house.machine(), example())
        self.assertEqual((house.wishes(), house.words(), len(house)), ({}, {}, 0))
        self.assertEqual(House(machine=example()), house)

    def test_each_deed_tells_none_and_stands(self):
        house = House(example())
        for number, (call, arguments) in enumerate([
            (house.wish, ("a", ("always", -2))), (house.gate, (0, ("or", 1, 3))), (house.next, (2, -1)),
            (house.starts, ([-1],)), (house.starts, ((),)), (house.drop, ("a",)), (house.together, ([],)),
        ]):
            self.assertEqual(len(house), number)
            self.assertIsNone(call(*arguments))
        self.assertEqual(len(house), 7)
        self.assertEqual(house.machine(), Machine(2, 1, [("or", 1, 3)], [1, -1]))
        self.assertIsNone(house.back())
        self.assertEqual(len(house), 6)

    def test_by_names_of_arguments(self):
        house = House(example())
        house.wish(wish=("always", -2), name="a")
        house.gate(gate=("or", 1, 3), number=0)
        house.next(sign=-1, box=2)
        house.starts(signs=[1])
        house.together(deeds=[("drop", "a")])
        self.assertEqual((house.wishes(), house.machine()), ({}, Machine(2, 1, [("or", 1, 3)], [1, -1], starts=[1])))
        house.back(many=5)
        house.wish("b", ("again", 1))
        self.assertEqual((house.paper(name="b"), house.used(name="b")), (house.paper("b"), 0))
        house.drop(name="b")
        self.assertEqual(len(house), 2)

    def test_the_machine_that_was_handed_in_stays(self):
        machine = example()
        house = House(machine)
        house.gate(0, ("or", 1, 3))
        house.next(1, 2)
        signs = [1, 2]
        house.starts(signs)
        signs.append(None)
        self.assertEqual(machine, example())
        self.assertEqual(house.machine(), Machine(2, 1, [("or", 1, 3)], [2, 4], starts=[1, 2]))

    def test_changes_of_many_machines(self):
        chance = random.Random(221)
        for machine in small_machines(222, 100):
            house = House(machine)
            ahead = machine.boxes() + machine.inputs()
            for number in range(len(machine.gates())):
                gate = (chance.choice(("and", "or", "odd")), chance.randint(1, ahead + number), -chance.randint(1, ahead + number))
                gates = house.machine().gates()
                gates[number] = gate
                due = changed(house.machine(), gates=gates)
                house.gate(number, gate)
                self.assertEqual(house.machine(), due)
            for box in range(1, machine.boxes() + 1):
                nexts = house.machine().nexts()
                nexts[box - 1] = chance.choice(all_signs(machine))
                house.next(box, nexts[box - 1])
                self.assertEqual(house.machine().nexts(), nexts)
            house.starts([-machine.boxes()])
            self.assertEqual(house.machine(), changed(house.machine(), starts=[-machine.boxes()]))


class TestWishes(HouseCase):
    def test_names(self):
        house = House(example())
        for name in ("a", "z", "abcdef", "zz", "wish", "x", "run", "keys"):
            house.wish(name, ("always", 1))
        self.assertEqual(list(house.wishes()), ["a", "z", "abcdef", "zz", "wish", "x", "run", "keys"])

    def test_order(self):
        house = House(example())
        for name in ("c", "a", "b"):
            house.wish(name, ("always", 1))
        house.wish("a", ("again", 2))
        self.assertEqual(list(house.wishes().items()), [("c", ("always", 1)), ("a", ("again", 2)), ("b", ("always", 1))])
        self.assertEqual(list(house.words()), ["c", "a", "b"])
        house.drop("c")
        house.wish("c", ("always", 1))
        self.assertEqual((list(house.wishes()), list(house.words())), (["a", "b", "c"], ["a", "b", "c"]))
        house.back()
        self.assertEqual(list(house.wishes()), ["a", "b"])
        house.back()
        self.assertEqual((list(house.wishes()), list(house.words())), (["c", "a", "b"], ["c", "a", "b"]))
        house.back()
        self.assertEqual(list(house.wishes().items()), [("c", ("always", 1)), ("a", ("always", 1)), ("b", ("always", 1))])
        house.next(1, 2)
        self.assertEqual((list(house.wishes()), list(house.words())), (["c", "a", "b"], ["c", "a", "b"]))
        house.together([("drop", "c"), ("drop", "a"), ("wish", "a", ("always", 1)), ("wish", "c", ("always", 1))])
        self.assertEqual(list(house.words()), ["b", "a", "c"])
        house.back(many=2)
        self.assertEqual(list(house.words()), ["c", "a", "b"])

    def test_words_and_papers(self):
        for machine in small_machines(223, 60):
            house = House(machine)
            signs = all_signs(machine)
            wishes = [("always", signs[0]), ("always", signs[-1]), ("again", signs[1]), ("again", signs[-2]),
                      ("behind", signs[0], signs[-1]), ("behind", signs[-1], signs[1]), ("always", -signs[0])]
            for name, wish in zip("gfedcba", wishes):
                house.wish(name, wish)
            self.assertEqual(list(house.words().items()), [(name, due_word(machine, wish)) for name, wish in zip("gfedcba", wishes)])
            for name, wish in zip("gfedcba", wishes):
                paper = house.paper(name)
                self.assertEqual(paper[0], house.words()[name])
                self.assertIs(lets_answer(machine, wish, paper), True)

    def test_at_most_eight(self):
        house = House(example())
        for name in "abcdefgh":
            house.wish(name, ("always", 1))
        self.assertEqual(self.refused(TooMany, house.wish, "i", ("always", 1)).size, 9)
        self.assertEqual((len(house), len(house.wishes())), (8, 8))
        house.wish("h", ("again", 1))
        self.refused(NoWish, house.wish, "i", ("ever", 1))
        house.drop("a")
        house.wish("i", ("always", 1))
        self.assertEqual(list(house.wishes()), list("bcdefghi"))
        self.assertEqual(self.refused(TooMany, house.wish, "a", ("always", 1)).size, 9)


class TestRefusals(HouseCase):
    def setUp(self):
        self.house = House(example())
        self.house.wish("a", ("always", -2))
        self.house.next(1, 1)
        self.ahead = seen(self.house)

    def tearDown(self):
        self.assertEqual(seen(self.house), self.ahead)

    def test_wish(self):
        for name in NO_NAMES:
            self.refused(NoName, self.house.wish, name, ("always", 1))
            self.refused(NoName, self.house.wish, name, None)
        for wish in NO_WISHES:
            self.refused(NoWish, self.house.wish, "a", wish)
            self.refused(NoWish, self.house.wish, "b", wish)
        self.assertIsInstance(self.refused(NoName, self.house.wish, 5, None), KeyError)

    def test_names_that_stand_there_not(self):
        for call in (self.house.drop, self.house.paper, self.house.used):
            for name in [*NO_NAMES, "b", "aa"]:
                self.refused(NoName, call, name)

    def test_gate(self):
        for number in [*NO_NUMBERS, -1, 1, 2, 24, 10 ** 50]:
            self.refused(NoGate, self.house.gate, number, ("or", 1, 2))
            self.refused(NoGate, self.house.gate, number, None)
        for gate in NO_GATES:
            refusal = self.refused(NoMachine, self.house.gate, 0, gate)
            self.assertEqual((refusal.part, refusal.number), ("gates", 0))
        self.assertIsInstance(self.refused(NoGate, self.house.gate, 1, 1), IndexError)
        self.refused(NoGate, House(Machine(1, 0, [], [1])).gate, 0, ("or", 1, 1))

    def test_the_number_is_the_gates(self):
        house = House(Machine(1, 0, [("and", 1, 1), ("and", 2, 1), ("and", 3, 1)], [1]))
        for number in range(3):
            refusal = self.refused(NoMachine, house.gate, number, ("and", 1, number + 2))
            self.assertEqual((refusal.part, refusal.number), ("gates", number))
            house.gate(number, ("and", 1, number + 1))

    def test_next(self):
        for box in [*NO_NUMBERS, 0, -1, 3, 11, 10 ** 50]:
            self.refused(NoBox, self.house.next, box, 1)
            self.refused(NoBox, self.house.next, box, None)
        for box in (1, 2):
            for sign in NO_SIGNS:
                refusal = self.refused(NoMachine, self.house.next, box, sign)
                self.assertEqual((refusal.part, refusal.number), ("nexts", box - 1))
        self.assertIsInstance(self.refused(NoBox, self.house.next, 3, 1), IndexError)

    def test_starts(self):
        for signs, number in NO_STARTS:
            refusal = self.refused(NoMachine, self.house.starts, signs)
            self.assertEqual((refusal.part, refusal.number), ("starts", number))

    def test_back(self):
        for many in [*NO_NUMBERS, 0, -1, 3, 10 ** 50]:
            self.refused(NoChange, self.house.back, many=many)
        self.refused(NoChange, House(example()).back)
        self.assertIsInstance(self.refused(NoChange, self.house.back, many=3), KeptError)
        with self.assertRaises(TypeError):
            self.house.back(1)

    def test_no_list_of_deeds(self):
        for deeds in [*STRANGE, *NO_NUMBERS, 1, 0, (), (("drop", "a"),), {"drop": "a"}]:
            if deeds != []:
                self.assertIsNone(self.refused(NoDeeds, self.house.together, deeds).number)
        for deed in [*STRANGE, *NO_NUMBERS, 0, ["drop", "a"], "drop", ("drop",), ("drop", "a", "b"), ("wish", "a"),
                     ("wish", "a", ("always", 1), None), ("gate", 0), ("gate", 0, ("or", 1, 1), 1), ("next", 1), ("next",),
                     ("starts",), ("starts", [], []), ("back",), ("back", 1), ("together", []), ("machine",), ("Drop", "a"),
                     ("twin",), (b"drop", "a"), (["drop"], "a"), (None, "a"), (Odd(), "a"), ()]:
            for deeds in ([deed], [("next", 1, 1), deed], [deed, ("next", 1, 1)], [("drop", "zz"), deed]):
                self.assertIsNone(self.refused(NoDeeds, self.house.together, deeds).number, deeds)

    def test_a_refused_deed_among_others(self):
        fine = [("next", 2, 1), ("wish", "b", ("again", 1)), ("drop", "a"), ("gate", 0, ("odd", 1, 2)), ("starts", [1])]
        for deed, kind in [
            (("wish", "B", ("always", 1)), NoName), (("wish", "b", ("always", 5)), NoWish), (("drop", "zz"), NoName),
            (("drop", []), NoName), (("gate", 1, ("or", 1, 1)), NoGate), (("gate", None, None), NoGate),
            (("gate", 0, ("or", 4, 1)), NoMachine), (("next", 0, 1), NoBox), (("next", 1, 0), NoMachine),
            (("starts", [1, 1]), NoMachine), (("starts", None), NoMachine),
        ]:
            for number in range(len(fine) + 1):
                deeds = fine[:number] + [deed] + fine[number:]
                refusal = self.refused(NoDeeds, self.house.together, deeds)
                self.assertEqual(refusal.number, number)
                self.assertIs(type(refusal.__cause__), kind)
        self.assertEqual(self.refused(NoDeeds, self.house.together, [("drop", "a"), ("drop", "a")]).number, 1)
        nine = [("wish", name, ("always", 1)) for name in "bcdefghij"]
        self.assertEqual(self.refused(NoDeeds, self.house.together, nine).number, 7)

    def test_what_was_refused_can_t_be_taken_back(self):
        house = House(example())
        house.next(1, 2)
        self.refused(NoMachine, house.next, 1, 9)
        self.refused(NoDeeds, house.together, [("next", 1, 1), ("next", 1, 9)])
        self.refused(NoChange, house.back, many=2)
        house.back()
        self.assertEqual(house.machine(), example())


class TestTogetherAndBack(HouseCase):
    def test_deeds_together_are_one(self):
        house = House(example())
        house.together([("wish", "a", ("always", -2)), ("next", 1, -1), ("gate", 0, ("or", 1, 3)), ("starts", (1,))])
        self.assertEqual((len(house), house.wishes()), (1, {"a": ("always", -2)}))
        self.assertEqual(house.machine(), Machine(2, 1, [("or", 1, 3)], [-1, 4], starts=[1]))
        house.together([])
        self.assertEqual(len(house), 2)
        house.back()
        self.assertEqual((len(house), house.wishes()), (1, {"a": ("always", -2)}))
        house.back()
        self.assertEqual((len(house), house.wishes(), house.machine()), (0, {}, example()))

    def test_a_deed_sees_those_ahead_of_it(self):
        house = House(example())
        house.together([("wish", "a", ("always", 1)), ("drop", "a"), ("wish", "b", ("always", 1))])
        self.assertEqual(house.wishes(), {"b": ("always", 1)})

    def test_back_by_many(self):
        chance = random.Random(224)
        for machine in small_machines(225, 30):
            house = House(machine)
            past = [seen(house)]
            for number in range(12):
                house.together(some_deeds(chance, house))
                past.append(seen(house))
                if chance.random() < 0.3:
                    many = chance.randint(1, len(house))
                    house.back(many=many)
                    del past[-many:]
                self.assertEqual(seen(house), past[-1])
            if len(house):
                house.back(many=len(house))
            self.assertEqual(seen(house), past[0])


def simple_deed(chance, house, dropped):
    """A deed that a house in that state doesn't refuse; dropped are names of wishes that are dropped already."""
    machine = house.machine()
    names = [name for name in house.wishes() if name not in dropped]
    signs = all_signs(machine)
    choice = chance.choice(("wish", "drop", "gate", "next", "next", "starts", "same"))
    if choice == "drop" and names:
        dropped.append(chance.choice(names))
        return "drop", dropped[-1]
    if choice == "gate" and machine.gates():
        number = chance.randrange(len(machine.gates()))
        ahead = all_signs(machine)[:2 * (machine.boxes() + machine.inputs() + number)]
        return "gate", number, (chance.choice(("and", "or", "odd")), chance.choice(ahead), chance.choice(ahead))
    if choice == "next":
        return "next", chance.randint(1, machine.boxes()), chance.choice(signs)
    if choice == "starts":
        boxes = chance.sample(range(1, machine.boxes() + 1), chance.randint(0, machine.boxes()))
        return "starts", [chance.choice((1, -1)) * box for box in boxes]
    if choice == "same":
        return "starts", machine.starts()
    wish = chance.choice((("always", chance.choice(signs)), ("again", chance.choice(signs)),
                          ("behind", chance.choice(signs), chance.choice(signs))))
    return "wish", chance.choice("abcde"), wish


def some_deeds(chance, house):
    """Some deeds that can be done together."""
    told, dropped = [], []
    for number in range(chance.randint(0, 3)):
        deed = simple_deed(chance, house, dropped)
        told.append(deed)
        if deed[0] == "wish" and deed[1] in dropped:
            dropped.remove(deed[1])
    return told


class TestUsed(HouseCase):
    def test_ahead_of_any_change(self):
        house = House(example())
        house.wish("a", ("always", -2))
        self.assertEqual(house.used("a"), 0)
        house.paper("a")
        self.assertEqual(house.used("a"), 0)

    def test_behind_changes(self):
        for asked in (False, True):
            house = House(example())
            house.wish("a", ("always", -2))
            if asked:
                self.assertEqual(sorted(house.paper("a")[1]), [(-2,), (-1,)])
            house.gate(0, ("and", 3, 1))
            self.assertEqual(house.used("a"), 2)
            house.next(1, 1)
            self.assertEqual(house.used("a"), 2)
            # Now box 1 gets what the input says: nothing of that stays, nor is there a paper of clauses.
            house.next(1, 3)
            self.assertEqual((house.used("a"), house.words()), (0, {"a": "run"}))
            house.next(1, 1)
            self.assertEqual((house.used("a"), house.words()), (0, {"a": "kept"}))
            house.starts([-2, -1])
            self.assertEqual(house.used("a"), 2)
            house.starts([-2])
            self.assertEqual(house.used("a"), 0)
            house.back()
            self.assertEqual(house.used("a"), 2)
            house.back(many=2)
            self.assertEqual(house.used("a"), 0)
            house.back()
            self.assertEqual(house.used("a"), 2)

    def test_what_is_put_as_it_was_is_a_change(self):
        for deed in (("gate", 0, ("and", 1, 3)), ("next", 1, 1), ("starts", [-1, -2])):
            house = House(example())
            house.wish("a", ("always", -2))
            getattr(house, deed[0])(*deed[1:])
            self.assertEqual((house.used("a"), house.machine()), (2, example()))

    def test_a_wish_put_anew_counts_from_then_on(self):
        house = House(example())
        house.wish("a", ("always", -2))
        house.wish("b", ("always", -2))
        house.next(1, 1)
        house.wish("a", ("always", -2))
        self.assertEqual((house.used("a"), house.used("b")), (0, 2))
        house.drop("b")
        house.wish("b", ("always", -2))
        self.assertEqual((house.used("a"), house.used("b")), (0, 0))
        house.back()
        house.back()
        self.assertEqual((house.used("a"), house.used("b")), (0, 2))
        house.back()
        self.assertEqual((house.used("a"), house.used("b")), (2, 2))

    def test_deeds_together_change_one_by_one(self):
        house = House(example())
        house.wish("a", ("always", -2))
        # Ahead of the last of these there was a run, and so no clauses.
        house.together([("next", 1, 3), ("next", 1, 1)])
        self.assertEqual(house.used("a"), 0)
        house.together([("next", 1, 3), ("next", 1, 1), ("gate", 0, ("and", 1, 3)), ("wish", "b", ("always", -2))])
        self.assertEqual((house.used("a"), house.used("b")), (2, 0))
        house.together([("wish", "b", ("always", -1)), ("next", 2, 4)])
        self.assertEqual((house.used("a"), house.used("b")), (2, 1))
        house.together([("next", 2, 4), ("wish", "b", ("always", -1))])
        self.assertEqual((house.used("a"), house.used("b")), (2, 0))
        house.together([])
        self.assertEqual((house.used("a"), house.used("b")), (2, 0))

    def test_ranks_and_what_must_come_behind(self):
        # Box 1 is each second time, as long as box 2, which stays as it is, isn't.
        house = House(Machine(2, 0, [("and", -1, -2)], [3, 2], starts=[-1, -2]))
        house.wish("a", ("again", 1))
        house.wish("b", ("behind", -1, 1))
        self.assertEqual(house.words(), {"a": "ranks", "b": "ranks"})
        due = {name: len(house.paper(name)[1]) for name in "ab"}
        self.assertGreater(min(due.values()), 0)
        house.gate(0, ("and", -2, -1))
        self.assertEqual({name: house.used(name) for name in "ab"}, due)
        house.next(2, -2)
        # What was kept was that box 2 isn't: now it is, each second time.
        self.assertEqual(house.used("a"), 0)
        self.assertEqual(house.words(), {name: due_word(house.machine(), wish) for name, wish in house.wishes().items()})

    def test_many_deeds_against_a_house_that_is_asked_ahead_of_each_change(self):
        chance = random.Random(226)
        several = 0
        for machine in small_machines(227, 150):
            house = House(machine)
            steps = []
            for number in range(10):
                step = some_deeds(chance, house) if chance.random() < 0.5 else [simple_deed(chance, house, [])]
                if len(step) == 1 and chance.random() < 0.7:
                    getattr(house, step[0][0])(*step[0][1:])
                else:
                    house.together(step)
                steps.append(step)
                if chance.random() < 0.2:
                    many = chance.randint(1, len(house))
                    house.back(many=many)
                    del steps[-many:]
                if number % 3 == 0:
                    house.words()
            replay = replayed(machine, steps)
            self.assertEqual(len(house), len(steps))
            self.assertEqual(house, replay.house)
            self.assertEqual(list(house.wishes()), replay.order)
            self.assertEqual(list(house.words()), replay.order)
            for name, wish in house.wishes().items():
                used = house.used(name)
                self.assertIs(type(used), int)
                self.assertEqual(used, replay.used(name))
                self.assertEqual(house.words()[name], due_word(house.machine(), wish))
                self.assertIs(lets_answer(house.machine(), wish, house.paper(name)), True)
                several += used > 0
        self.assertGreater(several, 20)


class TestElderClauses(HouseCase):
    def reckonings(self, house):
        """How many papers are reckoned for the words of a house."""
        with unittest.mock.patch("keptclauses.house.answer", wraps=answer) as counted:
            words = house.words()
        self.assertEqual(words, {name: due_word(house.machine(), wish) for name, wish in house.wishes().items()})
        return counted.call_count

    def test_they_are_used_again_for_words(self):
        house = House(Machine(2, 0, [("and", -1, -2)], [3, 2], starts=[-1, -2]))
        for name, wish in (("a", ("always", -2)), ("b", ("again", 1)), ("c", ("behind", -1, 1))):
            house.wish(name, wish)
        self.assertEqual(self.reckonings(house), 3)
        self.assertEqual(self.reckonings(house), 0)
        house.gate(0, ("and", -2, -1))
        self.assertEqual(self.reckonings(house), 0)
        # Box 2 is each second time: no clause still is kept, but what must come does so from any stand.
        house.back()
        house.next(2, -2)
        self.assertEqual(self.reckonings(house), 1)
        self.assertEqual(house.words(), {"a": "run", "b": "ranks", "c": "ranks"})
        # Box 1 stays as it is: some clauses still are kept, but they don't keep what must come.
        house.back()
        house.next(1, 1)
        self.assertEqual(self.reckonings(house), 2)
        self.assertEqual(house.words(), {"a": "kept", "b": "round", "c": "round"})

    def test_the_words_are_those_of_houses_that_were_not_asked(self):
        chance = random.Random(233)
        served = 0
        for machine in small_machines(234, 150):
            house = House(machine)
            for name in "abcdef":
                sign, other = chance.choice(all_signs(machine)), chance.choice(all_signs(machine))
                house.wish(name, chance.choice((("always", sign), ("again", sign), ("behind", sign, other))))
            for turn in range(4):
                for name in "abcdef":
                    house.paper(name)
                house.next(chance.randint(1, machine.boxes()), chance.choice(all_signs(machine)))
                served += 6 - self.reckonings(house)
        self.assertGreater(served, 100)


class TestTooGreat(HouseCase):
    def test_what_must_come_behind_in_machines_too_great(self):
        for machine, size in ((sized(10, 1), 10), (sized(2, 23), 23), (sized(10, 24), 10)):
            house = House(machine)
            house.wish("b", ("behind", 1, -1))
            house.wish("a", ("always", 1))
            self.assertEqual(self.refused(TooMany, house.paper, "b").size, size)
            self.assertEqual(self.refused(TooMany, house.words).size, size)
            self.assertEqual(house.used("b"), 0)
            house.next(1, 2)
            self.assertEqual(self.refused(TooMany, house.used, "b").size, size)
            self.assertEqual(house.used("a"), 0)
            house.wish("b", ("behind", 1, -1))
            self.assertEqual(house.used("b"), 0)
            house.back()
            self.assertEqual(self.refused(TooMany, house.used, "b").size, size)
            self.refused(NoName, house.used, "c")
            self.assertEqual(house.paper("a")[0], "run")
            house.drop("b")
            self.assertEqual(house.words(), {"a": "run"})
            house.back(many=2)
            self.assertEqual(house.used("b"), 0)

    def test_ten_boxes_four_inputs_and_twenty_four_gates(self):
        chance = random.Random(228)
        for number in range(3):
            machine = random_machine(chance, 10, 4, 24, starts=9, promises=number)
            house = House(machine)
            for name in "abcdef":
                house.wish(name, (chance.choice(("always", "again")), chance.choice(all_signs(machine))))
            with deadline(60):
                house.words()
                for turn in range(3):
                    house.next(chance.randint(1, 10), chance.choice(all_signs(machine)))
                    used = {name: house.used(name) for name in "abcdef"}
                    words = house.words()
            walked = Walked(house.machine())
            reached = walked.come_to()
            for name, wish in house.wishes().items():
                self.assertGreaterEqual(used[name], 0)
                if wish[0] == "always":
                    self.assertEqual(words[name], "run" if walked.harm(wish[1]) else "kept")
                else:
                    self.assertEqual(words[name], "round" if walked.lacks(wish[1], reached) is None else "ranks")

    def test_many_clauses(self):
        machine, sign = even(9)
        house = House(machine)
        house.wish("a", ("always", sign))
        with deadline(60):
            self.assertEqual(len(house.paper("a")[1]), 256)
            house.next(3, 2)
            self.assertEqual((house.used("a"), house.words()), (256, {"a": "kept"}))
        machine, full = counter(10)
        house = House(machine)
        house.wish("a", ("again", full))
        with deadline(60):
            self.assertEqual(len(house.paper("a")[3]), 1024)
            self.assertEqual(house.words(), {"a": "ranks"})


class TestTwins(HouseCase):
    def test_a_twin_tells_the_same_and_goes_on_by_itself(self):
        house = House(example())
        house.wish("a", ("always", -2))
        house.next(1, 1)
        house.together([("wish", "b", ("again", 1)), ("starts", [-2, -1])])
        twin = house.twin()
        self.assertIs(type(twin), House)
        self.assertIsNot(twin, house)
        ahead = seen(house)
        self.assertEqual(seen(twin), ahead)
        self.assertEqual(twin, house)
        twin.back()
        self.assertEqual((len(twin), twin.wishes()), (2, {"a": ("always", -2)}))
        twin.next(1, 3)
        twin.drop("a")
        twin.wish("c", ("always", 1))
        self.assertEqual(seen(house), ahead)
        self.assertNotEqual(twin, house)
        house.back(many=3)
        self.assertEqual((len(house), len(twin), twin.wishes()), (0, 5, {"c": ("always", 1)}))
        twin.back(many=5)
        self.assertEqual(twin, house)

    def test_twins_behind_many_deeds(self):
        chance = random.Random(229)
        for machine in small_machines(230, 25):
            house = House(machine)
            for number in range(6):
                house.together(some_deeds(chance, house))
            twin = house.twin()
            told = seen(house)
            self.assertEqual(seen(twin), told)
            for number in range(4):
                twin.together(some_deeds(chance, twin))
            self.assertEqual(seen(house), told)
            twin.back(many=4)
            self.assertEqual(seen(twin), told)
            for number in range(len(house)):
                house.back()
                twin.back()
                self.assertEqual(seen(twin), seen(house))


class TestAlike(HouseCase):
    def test_alike_where_machine_and_wishes_are(self):
        house, other = House(example()), House(example())
        self.assertTrue(house == other)
        house.wish("a", ("always", 1))
        self.assertFalse(house == other)
        self.assertTrue(house != other)
        other.wish("a", ("always", 2))
        self.assertFalse(house == other)
        other.wish("a", ("always", 1))
        self.assertTrue(house == other)
        self.assertNotEqual(len(house), len(other))
        house.next(1, 2)
        self.assertFalse(house == other)
        other.next(1, 2)
        self.assertTrue(house == other)

    def test_like_nothing_else(self):
        house = House(example())
        for thing in [*STRANGE, 0, True, example(), {}, [], (example(), {}), Odd]:
            self.assertIs(house == thing, False)
            self.assertIs(house != thing, True)


class TestOwnLists(HouseCase):
    def test_told_lists_and_dicts_are_the_askers_own(self):
        house = House(Machine(2, 1, [("and", 1, 3)], [-1, 4], starts=[-1, -2]))
        wishes = [("always", -1), ("always", -4), ("again", 1), ("again", 2), ("behind", 4, 2), ("behind", 1, 2)]
        for name, wish in zip("abcdef", wishes):
            house.wish(name, wish)
        self.assertEqual(len(set(house.words().values())), 3)
        house.next(1, -1)
        ahead = seen(house)
        papers = {name: copy.deepcopy(house.paper(name)) for name in "abcdef"}
        twin = house.twin()
        for told in (house, twin):
            told.wishes().clear()
            told.words().clear()
            told.machine().gates().clear()
            for name in "abcdef":
                empty(told.paper(name))
        for told in (house, twin):
            self.assertEqual(seen(told), ahead)
            self.assertEqual({name: told.paper(name) for name in "abcdef"}, papers)

    def test_deeds_that_were_handed_in_stay(self):
        signs = [-1]
        deeds = [("starts", signs), ("wish", "a", ("always", 1))]
        house = House(example())
        house.together(deeds)
        self.assertEqual(deeds, [("starts", [-1]), ("wish", "a", ("always", 1))])
        signs.append(1)
        deeds.clear()
        self.assertEqual((house.machine().starts(), house.wishes()), ([-1], {"a": ("always", 1)}))

    def test_asking_changes_nothing(self):
        chance = random.Random(231)
        for machine in small_machines(232, 25):
            asked, silent = House(machine), House(machine)
            for number in range(8):
                deeds = some_deeds(chance, asked)
                asked.together(deeds)
                silent.together(deeds)
                seen(asked)
            self.assertEqual(seen(silent), seen(asked))
            for name in reversed(list(asked.wishes())):
                self.assertEqual(silent.paper(name), asked.paper(name))
                self.assertEqual(asked.paper(name)[0], answer(asked.machine(), asked.wishes()[name])[0])


if __name__ == "__main__":
    unittest.main()
