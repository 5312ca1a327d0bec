"""Machines of boxes, inputs and gates, and their beats."""

from keptclauses.clauses import holds, is_clause, says
from keptclauses.errors import NoMachine, NoStand, NoWord
from keptclauses.kinds import is_filling, is_number, is_sign, wrong_sign

MOST_BOXES = 10
MOST_INPUTS = 4
MOST_GATES = 24
MOST_PROMISES = 8


def both(one, other):
    return one and other


def either(one, other):
    return one or other


def just_one(one, other):
    return one != other


RECKONINGS = {"and": both, "or": either, "odd": just_one}


def all_fillings(many):
    """All fillings of so many things, sorted."""
    told = [()]
    for thing in range(many):
        told = [(*filling, truth) for filling in told for truth in (False, True)]
    return told


def is_gate(thing, ahead):
    """Whether it is a gate whose signs are of so many things ahead of it."""
    if not isinstance(thing, tuple) or len(thing) != 3:
        return False
    word, one, other = thing
    return isinstance(word, str) and word in RECKONINGS and is_sign(one, ahead) and is_sign(other, ahead)


def is_promise(thing, boxes, inputs):
    """Whether it is a clause of inputs."""
    return is_clause(thing, boxes + inputs) and all([abs(sign) > boxes for sign in thing])


def check_numbers(boxes, inputs):
    if not is_number(boxes, 1, MOST_BOXES):
        raise NoMachine("boxes", None)
    if not is_number(inputs, 0, MOST_INPUTS):
        raise NoMachine("inputs", None)


def check_gates(gates, ahead):
    if not isinstance(gates, list) or len(gates) > MOST_GATES:
        raise NoMachine("gates", None)
    for number, gate in enumerate(gates):
        if not is_gate(gate, ahead + number):
            raise NoMachine("gates", number)


def check_nexts(nexts, boxes, many):
    if not isinstance(nexts, list) or len(nexts) != boxes:
        raise NoMachine("nexts", None)
    for number, sign in enumerate(nexts):
        if not is_sign(sign, many):
            raise NoMachine("nexts", number)


def check_starts(starts, boxes):
    if not isinstance(starts, (tuple, list)):
        raise NoMachine("starts", None)
    number = wrong_sign(starts, boxes)
    if number is not None:
        raise NoMachine("starts", number)


def check_promises(promises, boxes, inputs):
    if not isinstance(promises, (tuple, list)) or len(promises) > MOST_PROMISES:
        raise NoMachine("promises", None)
    for number, promise in enumerate(promises):
        if not is_promise(promise, boxes, inputs):
            raise NoMachine("promises", number)


def words_under(promises, boxes, inputs):
    """All words that hold all promises, sorted; where there are none the promises are refused."""
    told = []
    for word in all_fillings(inputs):
        # Promises number the inputs behind the boxes, of which they say nothing: so any stand will do.
        filling = (False,) * boxes + word
        if all([holds(promise, filling) for promise in promises]):
            told.append(word)
    if len(told) == 0:
        raise NoMachine("promises", None)
    return told


class Machine:
    """Boxes that get, by each beat, what gates say that reckon with them and with inputs."""

    def __init__(self, boxes, inputs, gates, nexts, *, starts=(), promises=()):
        check_numbers(boxes, inputs)
        check_gates(gates, boxes + inputs)
        check_nexts(nexts, boxes, boxes + inputs + len(gates))
        check_starts(starts, boxes)
        check_promises(promises, boxes, inputs)
        self.coming = words_under(promises, boxes, inputs)
        self.box_count = boxes
        self.input_count = inputs
        self.gate_list = list(gates)
        self.next_signs = list(nexts)
        self.start_signs = list(starts)
        self.promise_list = list(promises)
        self.things = tuple(range(1, boxes + inputs + len(gates) + 1))

    def __len__(self):
        return len(self.things)

    def __eq__(self, other):
        return (
            isinstance(other, Machine)
            and self.box_count == other.box_count
            and self.input_count == other.input_count
            and self.gate_list == other.gate_list
            and self.next_signs == other.next_signs
            and self.start_signs == other.start_signs
            and self.promise_list == other.promise_list
        )

    def boxes(self):
        """How many boxes it has."""
        return self.box_count

    def inputs(self):
        """How many inputs it has."""
        return self.input_count

    def gates(self):
        """Its gates, in their order."""
        return list(self.gate_list)

    def nexts(self):
        """For each box the sign that it gets by a beat."""
        return list(self.next_signs)

    def starts(self):
        """The signs that each beginning says."""
        return list(self.start_signs)

    def promises(self):
        """The clauses that each word holds that may come."""
        return list(self.promise_list)

    def filling(self, stand, word):
        """The filling of all things by a stand and a word."""
        if not is_filling(stand, self.box_count):
            raise NoStand("this is no stand of the machine")
        if not self.is_word(word):
            raise NoWord("this is no word that may come")
        truths = [*stand, *word]
        for gate, one, other in self.gate_list:
            reckon = RECKONINGS[gate]
            truths.append(reckon(says(truths, one), says(truths, other)))
        return tuple(truths)

    def behind(self, stand, word):
        """The stand behind a beat."""
        filling = self.filling(stand, word)
        return tuple([says(filling, sign) for sign in self.next_signs])

    def beginnings(self):
        """All beginnings, sorted."""
        stands = all_fillings(self.box_count)
        return [stand for stand in stands if all([says(stand, sign) for sign in self.start_signs])]

    def words(self):
        """All words that may come, sorted."""
        return list(self.coming)

    def is_word(self, thing):
        """Whether it is a word that may come."""
        return is_filling(thing, self.input_count) and thing in self.coming
