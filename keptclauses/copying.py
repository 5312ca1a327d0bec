"""Copies of what is told, so that it is the asker's own."""


def copied(thing):
    """The same, but that all lists in it, all the way down, are new."""
    if isinstance(thing, list):
        return [copied(part) for part in thing]
    if isinstance(thing, tuple):
        return tuple([copied(part) for part in thing])
    return thing
