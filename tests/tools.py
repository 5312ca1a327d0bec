"""What several tests use: things of any kind, all fillings, all clauses, rows walked by hand, a deadline."""

import itertools
import signal
from contextlib import contextmanager


class Odd:
    """A thing of no kind that the program knows."""


# None of these is a clause, rows, a run, a round, a wish, a stand, a word, a number or a list of anything.
STRANGE = [
    None, "", "told", "always", "1", "(1,)", b"", b"told", {}, {1: 2}, {"told": 0}, set(), {1, 2},
    frozenset([1]), range(2), Odd(), Odd, len, iter([1]), [[]], [[[]]], [None], ["told", 0],
    (None,), ("",), ((),), ([],), ({},), (((),),), (Odd(),), "None", object(),
]

# No whole number among these.
NO_NUMBERS = [True, False, [], [1], (), (1,), *STRANGE]


def all_fillings(many):
    return list(itertools.product((False, True), repeat=many))


def all_clauses(many):
    """All clauses for so many things, by hand: each thing is left out, or stands there with one of its signs."""
    told = []
    for choice in itertools.product((0, 1, -1), repeat=many):
        told.append(tuple(sign * thing for thing, sign in enumerate(choice, start=1) if sign))
    return told


def says(filling, sign):
    return filling[sign - 1] if sign > 0 else not filling[-sign - 1]


def holds_by(clause, filling):
    return any(says(filling, sign) for sign in clause)


def walked(clauses, rows):
    """The clauses of rows, reckoned without the program."""
    told = []
    for row in rows:
        if row[0] == "told":
            assert len(row) == 2 and 0 <= row[1]
            told.append(frozenset(clauses[row[1]]))
        else:
            word, one, other, thing = row
            assert word == "met" and 0 <= one < len(told) and 0 <= other < len(told) and thing > 0
            assert thing in told[one] and -thing in told[other]
            told.append((told[one] - {thing}) | (told[other] - {-thing}))
            assert not any(-sign in told[-1] for sign in told[-1])
    return told


@contextmanager
def deadline(seconds):
    """What takes longer fails, and doesn't hang."""
    def stop(number, frame):
        raise AssertionError(f"not done within {seconds} seconds")

    elder = signal.signal(signal.SIGALRM, stop)
    signal.alarm(seconds)
    try:
        yield
    finally:
        signal.alarm(0)
        signal.signal(signal.SIGALRM, elder)
