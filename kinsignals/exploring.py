"""All houses to which scripts of names lead, from the nearest to the farthest."""

from kinsignals.errors import TooMany
from kinsignals.stillness import idle_word


class Found:
    """The houses that were found, by their texts."""

    def __init__(self):
        # How each was found first: the text of the house ahead and who stepped there; None of the one at the start.
        self.ways = {}
        # Those in which nobody can go.
        self.ends = []


def steps_from(house):
    """For each one that can go, rising: its name, and the house behind its step."""
    came = []
    for name in house.names():
        other = house.twin()
        if idle_word(other.step(name)) is None:
            came.append((name, other))
    return came


def keep_way(found, text, way, most):
    """Keeps how a house was found, if it is the most'th one at the latest."""
    if len(found.ways) >= most:
        raise TooMany()
    found.ways[text] = way


def next_round(found, houses, most):
    """Finds what is one step behind these houses and was not found so far."""
    coming = []
    for text, house in houses:
        came = steps_from(house)
        if len(came) == 0:
            found.ends.append(text)
        for name, other in came:
            other_text = str(other)
            if other_text not in found.ways:
                keep_way(found, other_text, (text, name), most)
                coming.append((other_text, other))
    return coming


def explore(house, most):
    """Finds all that can come of a house, each by its least script; refused where there are more than most."""
    found = Found()
    text = str(house)
    keep_way(found, text, None, most)
    # Round by round, and rising within each, so that the way found first is the least one.
    houses = [(text, house)]
    while len(houses) > 0:
        houses = next_round(found, houses, most)
    return found
