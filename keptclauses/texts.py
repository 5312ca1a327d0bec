"""Machines as texts, row by row."""

from keptclauses.errors import NoText
from keptclauses.machines import RECKONINGS, Machine

FIGURES = "0123456789"
MOST_FIGURES = 3


def is_number_word(word):
    """Whether it is a number, as numbers are written: one to three figures, no nought ahead."""
    if not 1 <= len(word) <= MOST_FIGURES or not all([figure in FIGURES for figure in word]):
        return False
    return word == "0" or word[0] != "0"


def is_sign_word(word):
    """Whether it is a sign, as signs are written: a number other than 0, perhaps with a - in front."""
    number = word.removeprefix("-")
    return is_number_word(number) and number != "0"


def one_number(words):
    return len(words) == 1 and is_number_word(words[0])


def any_signs(words):
    return all([is_sign_word(word) for word in words])


def some_signs(words):
    return len(words) > 0 and any_signs(words)


def two_signs(words):
    return len(words) == 2 and any_signs(words)


ROWS = {
    "boxes": one_number,
    "inputs": one_number,
    "starts": any_signs,
    "promise": some_signs,
    "and": two_signs,
    "or": two_signs,
    "odd": two_signs,
    "next": some_signs,
}
# By the first word of a row ahead, "" of none, the first words of which one is due.
DUE = {
    "": ("boxes",),
    "boxes": ("inputs",),
    "inputs": ("starts",),
    "starts": ("promise", "and", "or", "odd", "next"),
    "promise": ("promise", "and", "or", "odd", "next"),
    "and": ("and", "or", "odd", "next"),
    "or": ("and", "or", "odd", "next"),
    "odd": ("and", "or", "odd", "next"),
    "next": (),
}


def can_stand(words, ahead):
    """Whether a row of words can stand behind a row whose first word is ahead."""
    first, *rest = words
    if first not in DUE[ahead]:
        return False
    is_row = ROWS[first]
    return is_row(rest)


def read_rows(text):
    """The rows of a machine's text, each a list of words."""
    if not isinstance(text, str):
        raise NoText(0)
    rows = [row.split(" ") for row in text.split("\n")]
    ahead = ""
    for number, words in enumerate(rows):
        if not can_stand(words, ahead):
            raise NoText(number)
        ahead = words[0]
    if ahead != "next":
        raise NoText(len(rows))
    return rows


def row_signs(words):
    """The signs of a row."""
    return [int(word) for word in words[1:]]


def read(text):
    """The machine that a text tells."""
    rows = read_rows(text)
    return Machine(
        int(rows[0][1]),
        int(rows[1][1]),
        [(words[0], int(words[1]), int(words[2])) for words in rows if words[0] in RECKONINGS],
        row_signs(rows[-1]),
        starts=row_signs(rows[2]),
        promises=[tuple(row_signs(words)) for words in rows if words[0] == "promise"],
    )


def row_of(word, numbers):
    """A row of a word and numbers."""
    return " ".join([word] + [str(number) for number in numbers])


def shown(machine):
    """The text of a machine."""
    rows = [row_of("boxes", [machine.boxes()]), row_of("inputs", [machine.inputs()])]
    rows.append(row_of("starts", machine.starts()))
    rows += [row_of("promise", promise) for promise in machine.promises()]
    rows += [row_of(word, [one, other]) for word, one, other in machine.gates()]
    return "\n".join(rows + [row_of("next", machine.nexts())])
