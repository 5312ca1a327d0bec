"""Runs of machines, beat by beat, and their waves."""

from keptclauses.clauses import says
from keptclauses.errors import NoNumber, NoRun, NoWord
from keptclauses.kinds import is_filling, is_number

MOST_BEATS = 2000


def is_beginning(machine, thing):
    """Whether it is a stand that says all starts."""
    return is_filling(thing, machine.boxes()) and all([says(thing, sign) for sign in machine.starts()])


def are_words(machine, thing, most):
    """Whether it is a list of at most so many words that may come."""
    if not isinstance(thing, list) or len(thing) > most:
        return False
    return all([machine.is_word(word) for word in thing])


def is_run(machine, thing):
    """Whether it is a run of the machine."""
    if not isinstance(thing, tuple) or len(thing) != 2:
        return False
    stand, words = thing
    return is_beginning(machine, stand) and are_words(machine, words, MOST_BEATS) and len(words) > 0


def checked(machine, run):
    """The beginning of a run and its words."""
    if not is_run(machine, run):
        raise NoRun("this is no run of the machine")
    return run


def stands(machine, run):
    """The beginning, and the stand behind each beat."""
    stand, words = checked(machine, run)
    told = [stand]
    for word in words:
        stand = machine.behind(stand, word)
        told.append(stand)
    return told


def fillings(machine, run):
    """The filling of all things at each beat."""
    stand, words = checked(machine, run)
    told = []
    for word in words:
        told.append(machine.filling(stand, word))
        stand = machine.behind(stand, word)
    return told


def wave(machine, run):
    """A row for each thing, with 1 or 0 for each beat."""
    told = fillings(machine, run)
    rows = []
    for place in range(len(machine)):
        rows.append("".join(["1" if filling[place] else "0" for filling in told]))
    return "\n".join(rows)


def told_on(machine, run, words):
    """The longer run, with these words behind its own."""
    stand, ahead = checked(machine, run)
    if not are_words(machine, words, MOST_BEATS - len(ahead)):
        raise NoWord("these are no words by which the run can be told on")
    return stand, [*ahead, *words]


def cut(machine, run, beats):
    """The first beats of a run, so many."""
    stand, words = checked(machine, run)
    if not is_number(beats, 1, len(words)):
        raise NoNumber("the run has no such number of beats")
    return stand, words[:beats]
