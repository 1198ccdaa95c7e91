"""Houses, entries and scripts made by chance, the same ones in each run."""

from kinsignals.houses import House
from scenes import SIGNALS

LOOSE = SIGNALS[2:]
MOST_PEOPLE = 24


def some_signals(chance):
    return tuple(signal for signal in LOOSE if chance.random() < 0.25)


def some_row(chance, size):
    r, k, n = chance.randrange(size), chance.randrange(3), chance.randrange(100)
    signal, loose = chance.choice(SIGNALS), chance.choice(LOOSE)
    who = chance.choice(("self", k))
    return chance.choice((
        ("fork",), ("fork",), ("fork",), ("exec", chance.choice("abc")), ("end", n), ("wait", None, chance.random() < 0.5),
        ("wait", k, chance.random() < 0.5), ("pause",), ("read",), ("read",),
        ("send", signal, chance.choice(("self", "parent", "group", k))), ("send", signal, k), ("send", "halt", k),
        ("send", "on", chance.choice(("parent", "group", k))), ("mask", some_signals(chance)),
        ("unmask", some_signals(chance)), ("handle", loose, chance.choice(("plain", "ignore"))),
        ("handle", loose, (r, some_signals(chance))), ("handle", loose, (r, ())), ("return",), ("session",),
        ("group", who, "new"), ("group", who, chance.choice(("new", "mine"))), ("front", who), ("taker",), ("say", n),
        ("goto", r), ("if", chance.choice((0, 0, 1, -1, 2, 200)), r),
    ))


def some_house(chance):
    sizes = [chance.randrange(3, 16) for _ in "ab"]
    rows = [tuple(some_row(chance, size) for _ in range(size)) for size in sizes]
    typed = tuple(chance.randrange(100) for _ in range(chance.randrange(4)))
    return House((("a", (("fork",), *rows[0])), ("b", rows[1])), "a", typed=typed)


def some_entry(chance, house):
    what = chance.random()
    if what < 0.04:
        return ("put", chance.choice(house.sessions()), chance.randrange(100))
    if what < 0.10:
        return ("key", chance.choice(house.sessions()), chance.choice(SIGNALS))
    return chance.choice(house.names())


def some_walk(chance, steps):
    """A house made by chance, and the houses ahead of each of so many steps that are made in it by chance."""
    house = some_house(chance)
    for _ in range(steps):
        if len(house) > MOST_PEOPLE:
            return
        entry = some_entry(chance, house)
        yield house, entry
        house.step(entry)
