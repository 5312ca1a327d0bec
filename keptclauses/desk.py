"""A desk that keeps houses by names and answers rows of words."""

from keptclauses.answers import kept_of
from keptclauses.errors import NoKept, NoLine, TooMany
from keptclauses.house import House
from keptclauses.machines import RECKONINGS
from keptclauses.names import is_name
from keptclauses.runs import wave
from keptclauses.texts import is_number_word, is_sign_word, read, shown

MOST_HOUSES = 12
BREAK = "; "


def read_name(word):
    if not is_name(word):
        raise NoLine("a name is due here")
    return word


def read_number(word):
    if not is_number_word(word):
        raise NoLine("a number is due here")
    return int(word)


def read_sign(word):
    if not is_sign_word(word):
        raise NoLine("a sign is due here")
    return int(word)


def read_gate(word):
    if word not in RECKONINGS:
        raise NoLine("a gate's word is due here")
    return word


READERS = {"name": read_name, "number": read_number, "sign": read_sign, "gate": read_gate}
# By the first word of a row, what its other words are; a row that tells a machine is read apart.
FORMS = {
    "names": (),
    "drop": ("name",),
    "show": ("name",),
    "words": ("name",),
    "always": ("name", "name", "sign"),
    "again": ("name", "name", "sign"),
    "behind": ("name", "name", "sign", "sign"),
    "answer": ("name", "name"),
    "run": ("name", "name"),
    "clauses": ("name", "name"),
    "gate": ("name", "number", "gate", "sign", "sign"),
    "next": ("name", "number", "sign"),
    "back": ("name", "number"),
}


def read_word(kind, word):
    """What a word of a kind tells."""
    reader = READERS[kind]
    return reader(word)


def read_words(first, words):
    """What the words behind the first one of a row tell."""
    if first not in FORMS or len(words) != len(FORMS[first]):
        raise NoLine("this is no row for a desk")
    return [read_word(kind, word) for kind, word in zip(FORMS[first], words)]


def listed(words):
    """Words parted by blanks, - where there are none."""
    return " ".join(words) if words else "-"


def show(house):
    return shown(house.machine()).replace("\n", BREAK)


def wish_words(house):
    words = house.words()
    return listed([f"{name} {words[name]}" for name in sorted(words)])


def put_always(house, name, sign):
    house.wish(name, ("always", sign))
    return "ok"


def put_again(house, name, sign):
    house.wish(name, ("again", sign))
    return "ok"


def put_behind(house, name, one, other):
    house.wish(name, ("behind", one, other))
    return "ok"


def is_way(paper):
    """Whether a paper is a run or a round, and no clauses."""
    return paper[0] in ("run", "round")


def told_answer(house, name):
    """The word of a paper, and how many beats, clauses or ranks it has."""
    paper = house.paper(name)
    if is_way(paper):
        many = len(paper[1][1])
    else:
        many = len(paper[1]) if paper[0] == "kept" else len(paper[3])
    return f"{paper[0]} {many}"


def told_run(house, name):
    """The wave of a run or a round."""
    paper = house.paper(name)
    if not is_way(paper):
        return "-"
    return wave(house.machine(), paper[1][:2]).replace("\n", BREAK)


def told_clauses(house, name):
    """The kept clauses of a paper."""
    return listed([",".join([str(sign) for sign in clause]) for clause in kept_of(house.paper(name))])


def put_gate(house, number, word, one, other):
    house.gate(number, (word, one, other))
    return "ok"


def put_next(house, box, sign):
    house.next(box, sign)
    return "ok"


def take_back(house, many):
    house.back(many=many)
    return "ok"


ACTS = {
    "show": show,
    "words": wish_words,
    "always": put_always,
    "again": put_again,
    "behind": put_behind,
    "answer": told_answer,
    "run": told_run,
    "clauses": told_clauses,
    "gate": put_gate,
    "next": put_next,
    "back": take_back,
}


class Desk:
    """Houses kept by names, told of and asked by rows of words."""

    def __init__(self):
        self.houses = {}

    def say(self, row):
        """The answer to a row."""
        if not isinstance(row, str) or "\n" in row:
            raise NoLine("this is no row")
        first, *rest = row.split(" ")
        if first == "machine":
            return self.keep_machine(rest)
        words = read_words(first, rest)
        if first == "names":
            return listed(sorted(self.houses))
        return self.act(first, *words)

    def keep_machine(self, words):
        """Keep a house of the machine that all words but the first, its name, tell."""
        if len(words) < 2:
            raise NoLine("a name and a text are due here")
        name = read_name(words[0])
        machine = read(" ".join(words[1:]).replace(BREAK, "\n"))
        if name not in self.houses and len(self.houses) == MOST_HOUSES:
            raise TooMany(MOST_HOUSES + 1)
        self.houses[name] = House(machine)
        return "ok"

    def act(self, first, name, *rest):
        """Do what a row says to the house of a name."""
        if name not in self.houses:
            raise NoKept("nothing is kept by this name")
        if first == "drop":
            del self.houses[name]
            return "ok"
        told = ACTS[first]
        return told(self.houses[name], *rest)
