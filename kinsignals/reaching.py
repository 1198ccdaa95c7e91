"""All that can come of a house: the houses, the scripts to them, and those in which nobody can go."""

from kinsignals.exploring import explore

MOST = 2000


def reached(house, *, most=MOST):
    """The texts of all houses to which scripts of names lead, rising."""
    found = explore(house, most)
    return tuple(sorted(list(found.ways)))


def script_to(house, text, *, most=MOST):
    """The least script of names to the house of this text, None where none leads there."""
    found = explore(house, most)
    if not isinstance(text, str) or text not in found.ways:
        return None
    names = []
    way = found.ways[text]
    while way is not None:
        text_ahead, name = way
        names.append(name)
        way = found.ways[text_ahead]
    return tuple(names[::-1])


def stills(house, *, most=MOST):
    """The texts of all reached houses in which nobody can go, rising."""
    found = explore(house, most)
    return tuple(sorted(found.ends))
