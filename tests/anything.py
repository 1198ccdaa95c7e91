"""Things of all kinds, to hand in where anything may be handed in."""


class Other:
    """An object that is none of the kinds the program knows."""


def nested(kind, depth):
    thing = kind(())
    for _ in range(depth - 1):
        thing = kind((thing,))
    return thing


def nested_dict(depth):
    thing = {}
    for _ in range(depth - 1):
        thing = {"a": thing}
    return thing


def anything():
    """Made anew at each call, so that a change of one thing shows nowhere else."""
    return [
        None, True, False, 0, 1, -1, 7, 99, 100, 10 ** 9, -(10 ** 9),
        "", "a", "self", "fork", "plain", "kill", "on", "zz", "A", "a b", "\n", "x" * 300,
        b"", b"a", b"fork", bytearray(b"a"),
        (), (0,), ("a",), ("fork",), (0, ()), ("a", ()), ((),), (None,), (True,), (("fork",),),
        [], ["fork"], [0, ()], [("fork",)], ["a", [("fork",)]],
        {}, {"fork": 1}, {0: "a"}, {"a": [1]}, set(), {1}, {"a"}, frozenset(), frozenset(("a",)),
        range(3), Other(), object(), Other, len, ValueError("a"), NotImplemented, ...,
        nested(tuple, 20), nested(list, 20), nested_dict(20), (nested(list, 19),), [nested(tuple, 19)],
    ]


def frozen(thing):
    """A picture of a thing, by which a change of it would show."""
    return repr(thing)
