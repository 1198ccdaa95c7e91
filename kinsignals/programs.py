"""Programs and books: which things are rows, and which are books."""

from kinsignals.signals import are_loose, is_loose, is_signal
from kinsignals.values import is_natural, is_one_of, is_small, is_whole

LONGEST_TITLE = 8

# The kinds of the parts that stand behind each row's word.
FORMS = {
    "fork": (),
    "exec": ("title",),
    "end": ("small",),
    "wait": ("which", "truth"),
    "pause": (),
    "read": (),
    "send": ("signal", "to"),
    "mask": ("signals",),
    "unmask": ("signals",),
    "handle": ("loose", "how"),
    "return": (),
    "session": (),
    "group": ("who", "where"),
    "front": ("who",),
    "taker": (),
    "say": ("small",),
    "goto": ("row",),
    "if": ("whole", "row"),
}


def is_title(thing):
    """Whether thing is a text of 1 to 8 letters a to z."""
    if not isinstance(thing, str) or not 1 <= len(thing) <= LONGEST_TITLE:
        return False
    return all(["a" <= letter <= "z" for letter in thing])


def is_row_number(thing, size):
    """Whether thing is the number of one of so many rows."""
    return is_natural(thing) and thing < size


def is_handler(thing, size):
    """Whether thing is (r, signals): the row where a handler begins, and what it masks."""
    if not isinstance(thing, tuple) or len(thing) != 2:
        return False
    return is_row_number(thing[0], size) and are_loose(thing[1])


def is_child_part(kind, part):
    """Whether part is of this kind: which, who or to, each a child's number or a choice of its own."""
    if is_natural(part):
        return True
    if kind == "which":
        return part is None
    if kind == "who":
        return is_one_of(part, ("self",))
    return is_one_of(part, ("self", "parent", "group"))


def is_part(kind, part, size):
    """Whether part is of this kind, in a program of so many rows."""
    if kind == "title":
        return is_title(part)
    if kind == "small":
        return is_small(part)
    if kind == "whole":
        return is_whole(part)
    if kind == "truth":
        return isinstance(part, bool)
    if kind == "row":
        return is_row_number(part, size)
    if kind == "signal":
        return is_signal(part)
    if kind == "loose":
        return is_loose(part)
    if kind == "signals":
        return are_loose(part)
    if kind == "how":
        return is_one_of(part, ("plain", "ignore")) or is_handler(part, size)
    if kind == "where":
        return is_one_of(part, ("new", "mine"))
    return is_child_part(kind, part)


def is_row(thing, size):
    """Whether thing, which may be anything, is a row of a program of so many rows."""
    if not isinstance(thing, tuple) or len(thing) == 0:
        return False
    word = thing[0]
    # What is no text may have no hash, so it is not looked up.
    if not isinstance(word, str) or word not in FORMS:
        return False
    kinds = FORMS[word]
    if len(thing) != len(kinds) + 1:
        return False
    return all([is_part(kind, part, size) for kind, part in zip(kinds, thing[1:])])


def is_program(thing):
    """Whether thing is (title, rows)."""
    if not isinstance(thing, tuple) or len(thing) != 2 or not is_title(thing[0]):
        return False
    rows = thing[1]
    if not isinstance(rows, tuple) or len(rows) == 0:
        return False
    return all([is_row(row, len(rows)) for row in rows])


def is_book(thing):
    """Whether thing, which may be anything, is a book."""
    if not isinstance(thing, tuple) or len(thing) == 0:
        return False
    if not all([is_program(program) for program in thing]):
        return False
    titles = [program[0] for program in thing]
    return titles == sorted(set(titles))
