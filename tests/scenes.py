"""Houses of programs with named rows, and steps looked at with all that they change."""

import unittest

from kinsignals.houses import House
from kinsignals.scripts import tale, walk

SIGNALS = ("kill", "halt", "on", "hang", "quit", "call", "kin", "rest", "reads")
THINGS = (
    "parent", "group", "session", "how", "word", "title", "row", "last",
    "mask", "held", "handlers", "pile", "born", "taker", "changed", "news",
)


def rows_of(lines):
    """Rows out of lines: a text is a mark for the row behind it, by which other rows may call that row."""
    marks, rows = {}, []
    for line in lines:
        if isinstance(line, str):
            marks[line] = len(rows)
        else:
            rows.append(line)

    def placed(row):
        if row[0] in ("goto", "if"):
            return (*row[:-1], marks.get(row[-1], row[-1]))
        if row[0] == "handle" and isinstance(row[2], tuple):
            return (*row[:2], (marks.get(row[2][0], row[2][0]), row[2][1]))
        return row

    return tuple(placed(row) for row in rows)


def book_of(**programs):
    return tuple(sorted((title, rows_of(lines)) for title, lines in programs.items()))


def house_of(*lines, typed=(), **others):
    """A house whose first one runs these lines, under the title a."""
    return House(book_of(a=lines, **others), "a", typed=typed)


def run(house, *entries):
    """Steps these entries, and tells all events in a row."""
    return tale(walk(house, entries))


def picture(house):
    """All that can be told of a house."""
    return (
        {name: house.person(name) for name in house.names()},
        {name: (house.front(name), house.typed(name)) for name in house.sessions()},
    )


def changes_between(ahead, behind):
    """What is other behind: of each person its changed things, its sixteen if it is new, None if it is gone."""
    changes = {}
    for name in sorted({*ahead[0], *behind[0]}):
        if name not in behind[0]:
            changes[name] = None
        elif name not in ahead[0]:
            changes[name] = behind[0][name]
        elif ahead[0][name] != behind[0][name]:
            pairs = zip(THINGS, ahead[0][name], behind[0][name])
            changes[name] = {thing: new for thing, old, new in pairs if old != new}
    for name, (front, typed) in behind[1].items():
        if name not in ahead[1] or ahead[1][name][0] != front:
            changes["front", name] = front
        if name not in ahead[1] or ahead[1][name][1] != typed:
            changes["typed", name] = typed
    return changes


class Node:
    """One of a family to be grown: rows done at once, children forked behind these, and lines that are left to do."""

    def __init__(self, lines, *children, ahead=()):
        self.lines = lines
        self.children = children
        self.ahead = ahead


def lines_of(node, name):
    """The lines of a node and of all below it, each with a pause behind its own."""
    lines = [*node.ahead] if name == () else [f"start of {name}", *node.ahead]
    for k in range(len(node.children)):
        lines += [("fork",), ("if", 0, f"start of {(*name, k)}")]
    lines += [*node.lines, ("pause",)]
    for k, child in enumerate(node.children):
        lines += lines_of(child, (*name, k))
    return lines


def growing(node, name):
    """The script by which each one comes to the first of its own lines."""
    script = [name] * len(node.ahead)
    for k, child in enumerate(node.children):
        script += [name, name, (*name, k), *growing(child, (*name, k))]
    return script


def grown(node, typed=(), **others):
    """A house in which all of a family are there, each at the first of its lines."""
    house = house_of(*lines_of(node, ()), typed=typed, **others)
    run(house, *growing(node, ()))
    return house


def parted(first, child, typed=(), **others):
    """A house of two: the first one is at the first of its lines, and its child at the first of its own."""
    return grown(Node(first, Node(child)), typed, **others)


def says(many):
    return [("say", 1)] * many


def line_of(many):
    """A house of one process, of which just so many houses come: each row leads to one more."""
    return house_of(*says(many - 1))


def ever_more():
    """One that has ever more children, each of which it waits for."""
    return house_of(("fork",), ("if", 0, 4), ("wait", None, False), ("goto", 0), ("end", 0))


class Case(unittest.TestCase):
    def takes(self, house, entry, events, changes=None):
        """The entry's step tells just these events, and changes just this."""
        ahead = picture(house)
        told = house.step(entry)
        self.assertIs(told.__class__, tuple)
        self.assertEqual(list(told), list(events))
        self.assertEqual(changes_between(ahead, picture(house)), changes or {})

    def idles(self, house, name, why):
        self.takes(house, name, [("idle", name, why)])

    def lacks(self, house, name):
        """The step passes a row over; nothing but row and last is changed."""
        row, last = self.thing(house, name, "row"), self.thing(house, name, "last")
        changes = {"row": row + 1, "last": -1} if last != -1 else {"row": row + 1}
        self.takes(house, name, [("lack", name)], {name: changes})

    def thing(self, house, name, thing):
        return house.person(name)[THINGS.index(thing)]

    def has(self, house, name, **things):
        there = dict(zip(THINGS, house.person(name)))
        self.assertEqual({thing: there[thing] for thing in things}, things)
