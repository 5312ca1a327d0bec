"""Of anything, whether it is of a kind that the program works with."""

MOST_THINGS = 60


def is_whole(thing):
    """Whether it is a whole number."""
    # Python counts True and False among its ints, the document doesn't count them among the whole numbers.
    return isinstance(thing, int) and not isinstance(thing, bool)


def is_number(thing, least, most):
    """Whether it is a whole number from least to most."""
    return is_whole(thing) and least <= thing <= most


def is_sign(thing, many):
    """Whether it is a sign of one of so many things."""
    return is_number(thing, -many, many) and thing != 0


def wrong_sign(signs, many):
    """The place of the first that is no sign of so many things, or is of a thing that stood ahead; else None."""
    ahead = set()
    for place, sign in enumerate(signs):
        if not is_sign(sign, many) or abs(sign) in ahead:
            return place
        ahead.add(abs(sign))
    return None


def is_filling(thing, many):
    """Whether it is a filling of so many things."""
    if not isinstance(thing, tuple) or len(thing) != many:
        return False
    return all([isinstance(truth, bool) for truth in thing])
