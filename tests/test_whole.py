"""Promises 1 to 3 over the whole program: all of it called by names, one machine in many hands, nothing handed in changed."""

import copy
import random
import unittest

from keptclauses.again import again
from keptclauses.always import always
from keptclauses.answers import answer, lets_answer
from keptclauses.beats import beat_clauses, clause_behind, signs_of, things_of
from keptclauses.clauses import clause_of, holds, is_clause, met, within
from keptclauses.desk import Desk
from keptclauses.failing import fails
from keptclauses.house import House
from keptclauses.joining import joined
from keptclauses.layers import Layers, lets_layers
from keptclauses.lean import lean, why_lean
from keptclauses.machines import MOST_BOXES, MOST_GATES, MOST_INPUTS, Machine
from keptclauses.papers import lets_paper
from keptclauses.promising import under_promises
from keptclauses.ranks import lets_again
from keptclauses.rows import lets_rows, row_clauses
from keptclauses.runs import cut, fillings, is_run, stands, told_on, wave
from keptclauses.solver import Solver
from keptclauses.still import still
from keptclauses.texts import read, shown
from keptclauses.watching import watched
from keptclauses.wishes import harms, is_wish
from tests.small import Walked, all_signs, beat_list, random_machine, small_machines
from tests.test_house import due_word
from tests.tools import deadline

NO, YES = (False,), (True,)


def example():
    """Two boxes; the first stays once it is, the second is what an input (3) says where the first one is (gate 4)."""
    return Machine(2, 1, [("and", 1, 3)], [1, 4], starts=[-1, -2])


def spoil(thing):
    """Change all lists and dicts in a thing, all the way down."""
    if isinstance(thing, (list, tuple)):
        for part in thing:
            spoil(part)
    if isinstance(thing, dict):
        for part in list(thing.values()):
            spoil(part)
        thing.clear()
        thing["spoiled"] = True
    if isinstance(thing, list):
        thing[:] = ["spoiled"] * (len(thing) + 1)


class TestByNames(unittest.TestCase):
    """Everything is called by the names of its arguments, in another order than that of their places."""

    def test_clauses_and_rows(self):
        self.assertIs(is_clause(many=2, thing=(1, -2)), True)
        self.assertIs(is_clause(many=1, thing=(1, -2)), False)
        self.assertEqual(clause_of(signs=[2, -1]), (-1, 2))
        self.assertIs(holds(filling=(False, True), clause=(1,)), False)
        self.assertIs(within(other=(1, 2), one=(1,)), True)
        self.assertEqual(met(thing=1, other=(-1, 3), one=(1, 2)), (2, 3))
        rows = [("told", 1), ("told", 0), ("met", 0, 1, 1)]
        self.assertEqual(row_clauses(rows=rows, clauses=[(-1, 2), (1, 2)]), [(1, 2), (-1, 2), (2,)])
        self.assertIs(lets_rows(end=(2,), rows=rows, clauses=[(-1, 2), (1, 2)]), True)

    def test_solver(self):
        solver = Solver(many=2)
        solver.put(clause=(1, 2))
        solver.put(clause=(-1,))
        self.assertEqual(solver.ask(under=[-1]), ("yes", (False, True)))
        solver.back(many=2)
        self.assertEqual((solver.clauses(), solver.many(), len(solver)), ([], 2, 0))

    def test_machines_runs_and_wishes(self):
        machine = Machine(promises=[], starts=[-1, -2], nexts=[1, 4], gates=[("and", 1, 3)], inputs=1, boxes=2)
        self.assertEqual(machine, example())
        stand, run = (False, False), ((False, False), [NO])
        self.assertEqual(machine.filling(word=YES, stand=stand), (False, False, True, False))
        self.assertEqual(machine.behind(word=YES, stand=stand), stand)
        self.assertIs(machine.is_word(thing=YES), True)
        self.assertIs(is_run(thing=run, machine=machine), True)
        self.assertEqual(stands(run=run, machine=machine), [stand, stand])
        self.assertEqual(fillings(run=run, machine=machine), [(False, False, False, False)])
        self.assertEqual(wave(run=run, machine=machine), "0\n0\n0\n0")
        self.assertEqual(told_on(words=[YES], run=run, machine=machine), (stand, [NO, YES]))
        self.assertEqual(cut(beats=1, run=(stand, [NO, YES]), machine=machine), run)
        self.assertIs(is_wish(thing=("always", 5), machine=machine), False)
        self.assertIs(harms(thing=run, wish=("always", 1), machine=machine), True)
        self.assertEqual((MOST_BOXES, MOST_INPUTS, MOST_GATES), (10, 4, 24))

    def test_papers(self):
        machine, wish = example(), ("always", -2)
        self.assertEqual(beat_clauses(machine=machine), beat_list(machine))
        self.assertEqual(things_of(machine=machine), 6)
        self.assertEqual(clause_behind(clause=(-1, 2), machine=machine), (-5, 6))
        self.assertEqual(signs_of(stand=(True, False)), [1, -2])
        self.assertEqual(fails(clauses=[(-2,)], wish=wish, machine=machine), ("beat", 0, (True, False), YES))
        paper = always(first=[(-1,)], wish=wish, machine=machine)
        self.assertIs(lets_paper(thing=paper, wish=wish, machine=machine), True)
        layers = Layers(wish=wish, machine=machine)
        self.assertIs(lets_layers(thing=layers.layers(), wish=wish, machine=machine), True)
        self.assertEqual(lean(clauses=[(-1,), (-2,)], wish=("always", -1), machine=machine), [(-1,)])
        self.assertEqual(why_lean(clauses=[(-1,)], wish=("always", -1), machine=machine),
                         [[("bar", (True, False), NO), ("begin", 0, (False, False))]])
        paper = again(wish=("again", -1), machine=machine)
        self.assertIs(lets_again(thing=paper, wish=("again", -1), machine=machine), True)
        self.assertEqual(len(watched(other=2, one=1, machine=machine)), 3)
        paper = answer(wish=("behind", 1, 2), machine=machine)
        self.assertIs(lets_answer(thing=paper, wish=("behind", 1, 2), machine=machine), True)
        self.assertEqual(still(clauses=[(-1,), (1,)], machine=machine), [(-1,)])

    def test_houses_joined_machines_and_desks(self):
        house = House(machine=example())
        house.wish(wish=("always", -2), name="a")
        house.together(deeds=[("next", 1, 1)])
        house.gate(gate=("and", 1, 3), number=0)
        house.next(sign=1, box=1)
        house.starts(signs=[-1, -2])
        self.assertEqual((house.used(name="a"), house.paper(name="a")[0]), (2, "kept"))
        house.back(many=4)
        house.drop(name="a")
        machine = Machine(1, 1, [], [2], starts=[-1])
        made, first, second = joined(to_other=[1], to_one=[1], other=machine, one=machine)
        self.assertEqual((first, second, len(made)), ([1, 2], [2, 1], 2))
        told = under_promises(to_other=[1], to_one=[1], wishes=(-1, -1), other=machine, one=machine)
        self.assertEqual([paper[0] for paper in told[2]], ["kept", "kept"])
        self.assertEqual(read(text=shown(machine=machine)), machine)
        self.assertEqual(Desk().say(row="names"), "-")


class Hands:
    """One machine in many hands: each of these is asked, and told again, in whatever order."""

    def __init__(self, machine, sign, other):
        self.machine = machine
        self.layers = Layers(machine, ("always", sign))
        self.house = House(machine)
        for name, wish in (("a", ("always", sign)), ("b", ("again", sign)), ("c", ("behind", sign, other))):
            self.house.wish(name, wish)
        self.house.next(1, machine.nexts()[0])
        self.twin = self.house.twin()
        self.solver = Solver(things_of(machine))
        for clause in beat_clauses(machine):
            self.solver.put(clause)
        self.layers.deeper()
        wires = [0] * machine.inputs()
        self.asks = {
            "layers": lambda: self.layers.layers(),
            "layers paper": lambda: self.layers.paper(),
            "always": lambda: always(machine, ("always", sign)),
            "again": lambda: again(machine, ("again", sign)),
            "behind": lambda: answer(machine, ("behind", sign, other)),
            "wishes": lambda: self.house.wishes(),
            "words": lambda: self.house.words(),
            "papers": lambda: [self.house.paper(name) for name in "abc"],
            "used": lambda: [self.house.used(name) for name in "abc"],
            "twin's papers": lambda: [self.twin.paper(name) for name in "cba"],
            "solver": lambda: [self.solver.ask(), self.solver.ask(under=(1,)), self.solver.ask(under=[-sign, 1][:1])],
            "solver's clauses": lambda: self.solver.clauses(),
            "parts": lambda: [machine.gates(), machine.nexts(), machine.starts(), machine.promises(), machine.words(),
                              machine.beginnings()],
            "joined": lambda: joined(machine, machine, to_one=wires, to_other=wires)[1:],
            "promises": lambda: under_promises(machine, machine, (1, -1), to_one=wires, to_other=wires),
            "watched": lambda: watched(machine, sign, other)[1:],
            "beats": lambda: beat_clauses(machine),
            "text": lambda: shown(machine),
            "fails": lambda: fails(machine, ("always", sign), [(1,), (-1,)]),
            "still": lambda: still(machine, [(1,), (-1,)]),
            "desk": lambda: told_desk(machine, sign),
        }


def told_desk(machine, sign):
    desk = Desk()
    desk.say("machine a " + shown(machine).replace("\n", "; "))
    desk.say(f"always a x {sign}")
    return [desk.say(row) for row in ("answer a x", "run a x", "clauses a x", "words a", "show a")]


class TestOneMachineInManyHands(unittest.TestCase):
    def machines(self, seed, many):
        return [machine for machine in small_machines(seed, many) if machine.inputs() <= 2 and len(machine.promises()) <= 4]

    def test_told_lists_changed_between(self):
        chance = random.Random(281)
        for machine in self.machines(282, 60):
            text = shown(machine)
            sign, other = chance.choice(all_signs(machine)), chance.choice(all_signs(machine))
            hands = Hands(machine, sign, other)
            due = {name: copy.deepcopy(ask()) for name, ask in hands.asks.items()}
            for turn in range(2):
                for name in chance.sample(list(hands.asks), len(hands.asks)):
                    told = hands.asks[name]()
                    self.assertEqual(told, due[name], name)
                    spoil(told)
            self.assertEqual(shown(machine), text)

    def test_in_whatever_order(self):
        chance = random.Random(283)
        for machine in self.machines(284, 40):
            sign, other = chance.choice(all_signs(machine)), chance.choice(all_signs(machine))
            told = []
            for turn in range(2):
                hands = Hands(read(shown(machine)), sign, other)
                names = chance.sample(list(hands.asks), len(hands.asks))
                told.append({name: hands.asks[name]() for name in names})
            self.assertEqual(told[0], told[1])

    def test_what_is_handed_in_may_be_changed_behind_the_call(self):
        gates, nexts, starts, promises = [("and", 1, 3)], [1, 4], [-1, -2], [(3,)]
        machine = Machine(2, 1, gates, nexts, starts=starts, promises=promises)
        due = Machine(2, 1, [("and", 1, 3)], [1, 4], starts=[-1, -2], promises=[(3,)])
        for part in (gates, nexts, starts, promises):
            spoil(part)
        self.assertEqual(machine, due)
        wires, clauses, words = [0], [(-1,), (-2,)], [YES]
        run = ((False, False), [YES])
        longer = told_on(machine, run, words)
        paper = always(machine, ("always", -2), first=clauses)
        told = lean(machine, ("always", -2), clauses)
        for part in (wires, clauses, words, run[1]):
            spoil(part)
        self.assertEqual(longer, ((False, False), [YES, YES]))
        self.assertIs(lets_paper(machine, ("always", -2), paper), True)
        self.assertIsNone(fails(machine, ("always", -2), told))

    def test_lookers_change_nothing(self):
        for machine in self.machines(285, 30):
            for wish in (("always", 1), ("again", -1), ("behind", 1, -1)):
                paper = answer(machine, wish)
                ahead = copy.deepcopy(paper)
                lets_answer(machine, wish, paper)
                lets_answer(machine, (*wish[:-1], -wish[-1]), paper)
                self.assertEqual(paper, ahead)


class TestJustOneOfTwo(unittest.TestCase):
    def test_of_each_machine_and_wish(self):
        chance = random.Random(286)
        for machine in small_machines(287, 80):
            signs = all_signs(machine)
            for wish in [("always", chance.choice(signs)), ("again", chance.choice(signs)),
                         ("behind", chance.choice(signs), chance.choice(signs))]:
                paper = answer(machine, wish)
                self.assertEqual(paper[0], due_word(machine, wish))
                self.assertIs(lets_answer(machine, wish, paper), True)
                house = House(machine)
                house.wish("a", wish)
                self.assertEqual(house.words(), {"a": paper[0]})
                self.assertIs(lets_answer(machine, wish, house.paper("a")), True)

    def test_joined_machines_keep_both(self):
        """What is told of two machines is told of the joined one, too, whichever way it is asked."""
        chance = random.Random(288)
        both = 0
        for number in range(200):
            one, other = [random_machine(chance, 2, 1, 2, starts=2) for turn in range(2)]
            to_one, to_other = [chance.randint(0, 2)], [chance.randint(0, 2)]
            wishes = (chance.choice(one.starts()), chance.choice(other.starts()))
            told = under_promises(one, other, wishes, to_one=to_one, to_other=to_other)
            made, first, second = joined(one, other, to_one=to_one, to_other=to_other)
            if told[2] is not None:
                both += 1
                for sign, moved in zip(wishes, (first, second)):
                    wish = ("always", moved[abs(sign) - 1] * (1 if sign > 0 else -1))
                    self.assertEqual(answer(made, wish)[0], "kept")
                    self.assertEqual(due_word(made, wish), "kept")
        self.assertGreater(both, 10)

    def test_a_house_that_is_changed_tells_the_word_of_a_new_one(self):
        chance = random.Random(289)
        for machine in small_machines(290, 40):
            signs = all_signs(machine)
            house = House(machine)
            for name, wish in (("a", ("always", signs[0])), ("b", ("again", signs[-1])), ("c", ("behind", signs[1], signs[-2]))):
                house.wish(name, wish)
            for turn in range(4):
                house.next(chance.randint(1, machine.boxes()), chance.choice(signs))
                new = House(house.machine())
                for name, wish in house.wishes().items():
                    new.wish(name, wish)
                self.assertEqual(house.words(), new.words())


class TestTheLargest(unittest.TestCase):
    def test_ten_boxes_four_inputs_and_twenty_four_gates(self):
        chance = random.Random(291)
        for number in range(2):
            machine = random_machine(chance, 10, 4, 24, starts=9 + number, promises=2)
            walked = Walked(machine)
            self.assertEqual(read(shown(machine)), machine)
            with deadline(120):
                for sign in chance.sample(all_signs(machine), 4):
                    self.check(machine, walked, sign)

    def check(self, machine, walked, sign):
        layers = Layers(machine, ("always", sign))
        while layers.deeper() is None:
            self.assertLess(len(layers), 1025)
        paper = answer(machine, ("always", sign))
        self.assertEqual(layers.paper()[0], paper[0])
        self.assertEqual(paper[0], "run" if walked.harm(sign) else "kept")
        for told in (paper, layers.paper()):
            self.assertIs(lets_paper(machine, ("always", sign), told), True)
        self.assertIs(lets_layers(machine, ("always", sign), layers.layers()), True)
        if paper[0] == "kept":
            self.assertEqual(still(machine, paper[1]), paper[1])
            self.assertEqual(len(why_lean(machine, ("always", sign), paper[1])), len(paper[1]))
        house = House(machine)
        house.wish("a", ("always", sign))
        house.next(10, machine.nexts()[9])
        self.assertEqual(house.used("a"), len(paper[1]) if paper[0] == "kept" else 0)
        self.assertEqual(house.words(), {"a": paper[0]})
        self.assertTrue(told_desk(machine, sign)[0].startswith(paper[0]))


if __name__ == "__main__":
    unittest.main()
