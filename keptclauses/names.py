"""Names of wishes and houses."""

SMALL_LETTERS = "abcdefghijklmnopqrstuvwxyz"
MOST_LETTERS = 6


def is_name(thing):
    """Whether it is a text of one to six small letters."""
    if not isinstance(thing, str) or not 1 <= len(thing) <= MOST_LETTERS:
        return False
    return all([letter in SMALL_LETTERS for letter in thing])
