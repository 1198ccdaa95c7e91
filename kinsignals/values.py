"""The plain values of which all else is made: numbers and words."""


def is_whole(thing):
    """Whether thing is a whole number: a truth is an int to Python, but none here."""
    return isinstance(thing, int) and not isinstance(thing, bool)


def is_natural(thing):
    """Whether thing is a whole number from 0."""
    return is_whole(thing) and thing >= 0


def is_small(thing):
    """Whether thing is a whole number from 0 to 99."""
    return is_whole(thing) and 0 <= thing <= 99


def is_one_of(thing, words):
    """Whether thing is a text, and one of these words."""
    return isinstance(thing, str) and thing in words


def is_name(thing):
    """Whether thing has the form of a process's name: a tuple of numbers from 0."""
    return isinstance(thing, tuple) and all([is_natural(part) for part in thing])


def are_small(thing):
    """Whether thing is a tuple of numbers from 0 to 99."""
    return isinstance(thing, tuple) and all([is_small(part) for part in thing])
