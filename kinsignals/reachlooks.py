"""A look at what is said to be all that can come of a house."""

from kinsignals.errors import TooMany
from kinsignals.reaching import reached


def are_texts(thing):
    """Whether thing is a tuple of texts."""
    return isinstance(thing, tuple) and all([isinstance(text, str) for text in thing])


def shows_reached(house, thing):
    """Whether thing, which may be anything, is the tuple of the texts of all houses that can come."""
    if not are_texts(thing):
        return False
    # It need not be looked farther than thing goes, so that a house of which ever more come is answered, too.
    try:
        texts = reached(house, most=len(thing))
    except TooMany:
        return False
    return texts == thing
