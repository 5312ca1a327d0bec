"""Houses: a machine that is changed, and wishes for it by names."""

from keptclauses.answers import answer, kept_by, kept_of
from keptclauses.copying import copied
from keptclauses.errors import NoBox, NoChange, NoDeeds, NoGate, NoMachine, NoName, NoWish, TooMany
from keptclauses.kinds import is_number
from keptclauses.machines import Machine
from keptclauses.names import is_name
from keptclauses.serving import still_keep
from keptclauses.still import still
from keptclauses.wishes import check_wish

MOST_WISHES = 8


class Asking:
    """A wish for a machine, whose paper is reckoned once, when it is asked for first.

    The paper hangs on these two alone: so it is the same whatever a house was asked ahead, and however it came there.
    Behind a change of the machine, elder is the same wish's asking for the machine as it was ahead of that; else None.
    """

    def __init__(self, machine, wish, elder):
        self.of_machine = machine
        self.of_wish = wish
        self.elder = elder
        self.known = None

    def reckoned(self):
        """The paper, which is not to be changed."""
        if self.known is None:
            self.known = answer(self.of_machine, self.of_wish)
        return self.known

    def still_serves(self, machine):
        """Whether clauses that are known already keep the wish by a changed machine, too."""
        if self.known is None or len(kept_of(self.known)) == 0:
            return False
        return still_keep(machine, self.of_wish, kept_of(self.known))

    def word(self):
        """The word of the paper; where elder clauses still keep the wish no new paper is needed for that."""
        if self.known is None and self.elder is not None and self.elder.still_serves(self.of_machine):
            return self.elder.known[0]
        return self.reckoned()[0]

    def used(self):
        """How many kept clauses of the elder paper still are kept."""
        if self.elder is None:
            return 0
        clauses = kept_of(self.elder.reckoned())
        return len(still(kept_by(self.of_machine, self.of_wish)[0], clauses))


# A house's state is a tuple of its machine and a dict of the askings for it by their names. Nothing in a state is
# changed: a deed makes a new one.


def check_put(askings, name):
    """Refuse what is no name of a wish that was put."""
    if not isinstance(name, str) or name not in askings:
        raise NoName("no wish was put by this name")


def with_wish(state, name, wish):
    """The state behind the putting of a wish."""
    machine, askings = state
    if not is_name(name):
        raise NoName("a name has one to six small letters")
    check_wish(machine, wish)
    if name not in askings and len(askings) == MOST_WISHES:
        raise TooMany(MOST_WISHES + 1)
    return machine, {**askings, name: Asking(machine, wish, None)}


def without_wish(state, name):
    """The state behind the dropping of a wish."""
    machine, askings = state
    check_put(askings, name)
    return machine, {other: askings[other] for other in askings if other != name}


def with_machine(state, gates, nexts, starts):
    """The state behind a change of the machine."""
    machine, askings = state
    made = Machine(machine.boxes(), machine.inputs(), gates, nexts, starts=starts, promises=machine.promises())
    return made, {name: Asking(made, askings[name].of_wish, askings[name]) for name in askings}


def with_gate(state, number, gate):
    """The state behind the change of a gate."""
    machine = state[0]
    gates = machine.gates()
    if not is_number(number, 0, len(gates) - 1):
        raise NoGate("this is no number of a gate")
    gates[number] = gate
    return with_machine(state, gates, machine.nexts(), machine.starts())


def with_next(state, box, sign):
    """The state behind the change of a box's next."""
    machine = state[0]
    if not is_number(box, 1, machine.boxes()):
        raise NoBox("this is no box")
    nexts = machine.nexts()
    nexts[box - 1] = sign
    return with_machine(state, machine.gates(), nexts, machine.starts())


def with_starts(state, signs):
    """The state behind the change of the starts."""
    return with_machine(state, state[0].gates(), state[0].nexts(), signs)


DEEDS = {"wish": with_wish, "drop": without_wish, "gate": with_gate, "next": with_next, "starts": with_starts}
ARGUMENTS = {"wish": 2, "drop": 1, "gate": 2, "next": 2, "starts": 1}


def is_deed(thing):
    """Whether it is a tuple of a deed's name and as many things as it has arguments."""
    if not isinstance(thing, tuple) or len(thing) == 0 or not isinstance(thing[0], str):
        return False
    return ARGUMENTS.get(thing[0]) == len(thing) - 1


def done(state, number, deed):
    """The state behind one of several deeds, that of a number."""
    word, *arguments = deed
    act = DEEDS[word]
    try:
        return act(state, *arguments)
    except (NoName, NoWish, TooMany, NoGate, NoBox, NoMachine) as refusal:
        raise NoDeeds(number) from refusal


class House:
    """A machine and wishes for it by names, changed by deeds that can be taken back."""

    def __init__(self, machine):
        self.now = (machine, {})
        self.past = []

    def __len__(self):
        return len(self.past)

    def __eq__(self, other):
        return isinstance(other, House) and self.machine() == other.machine() and self.wishes() == other.wishes()

    def enter(self, state):
        """Go on with the state behind a deed, so that the deed can be taken back."""
        self.past.append(self.now)
        self.now = state

    def wish(self, name, wish):
        """Put a wish by a name, in the stead of an elder one by that name."""
        self.enter(with_wish(self.now, name, wish))

    def drop(self, name):
        """Drop the wish of a name."""
        self.enter(without_wish(self.now, name))

    def gate(self, number, gate):
        """Put a gate in the stead of that with a number, from 0."""
        self.enter(with_gate(self.now, number, gate))

    def next(self, box, sign):
        """Put a sign as next of a box, from 1."""
        self.enter(with_next(self.now, box, sign))

    def starts(self, signs):
        """Put signs as starts."""
        self.enter(with_starts(self.now, signs))

    def together(self, deeds):
        """Do several deeds as one: all of them or none."""
        if not isinstance(deeds, list) or not all([is_deed(deed) for deed in deeds]):
            raise NoDeeds(None)
        state = self.now
        for number, deed in enumerate(deeds):
            state = done(state, number, deed)
        self.enter(state)

    def back(self, *, many=1):
        """Take back the last deeds that stand, so many."""
        if not is_number(many, 1, len(self.past)):
            raise NoChange("not so many deeds stand")
        self.now = self.past[-many]
        del self.past[-many:]

    def machine(self):
        """The machine as it is now."""
        return self.now[0]

    def wishes(self):
        """The wishes by their names, in the order in which they were put."""
        askings = self.now[1]
        return {name: askings[name].of_wish for name in askings}

    def paper(self, name):
        """The paper for the wish of a name and the machine as it is now."""
        askings = self.now[1]
        check_put(askings, name)
        return copied(askings[name].reckoned())

    def used(self, name):
        """How many kept clauses of the paper ahead of the machine's last change still are kept."""
        askings = self.now[1]
        check_put(askings, name)
        return askings[name].used()

    def words(self):
        """For each wish by its name the word of its paper."""
        askings = self.now[1]
        return {name: askings[name].word() for name in askings}

    def twin(self):
        """A house that is as this one, and goes on by itself."""
        told = House(self.machine())
        # States are never changed: so both may have the same ones.
        told.now = self.now
        told.past = list(self.past)
        return told
