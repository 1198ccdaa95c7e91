"""Kin: fork, taker, ends, who takes children up, being told of, wait."""

import unittest

from kinsignals.errors import NoOne
from scenes import SIGNALS, Case, Node, grown, house_of, parted, run

P, C, D, E = (), (0,), (1,), (2,)
CC, CCC = (0, 0), (0, 0, 0)


class Fork(Case):
    def test_the_first_child(self):
        house = house_of(("fork",), ("pause",))
        self.takes(house, P, [("fork", P, C)], {
            P: {"row": 1, "last": 1, "born": 1},
            C: (P, (), (), "runs", None, "a", 1, 0, (), (), (), (), 0, False, False, None),
        })

    def test_each_next_one_has_the_next_number(self):
        house = house_of(*[("fork",)] * 12)
        for k in range(12):
            self.assertEqual(run(house, P), (("fork", P, (k,)),))
            self.has(house, P, last=k + 1, born=k + 1, row=k + 1)
            self.has(house, (k,), parent=P, row=k + 1, last=0, born=0)

    def test_a_child_s_child(self):
        house = house_of(("fork",), ("fork",), ("fork",))
        run(house, P)
        self.takes(house, C, [("fork", C, CC)], {
            C: {"row": 2, "last": 1, "born": 1},
            CC: (C, (), (), "runs", None, "a", 2, 0, (), (), (), (), 0, False, False, None),
        })
        self.assertEqual(run(house, CC, C, P), (("fork", CC, CCC), ("fork", C, (0, 1)), ("fork", P, D)))

    def test_what_a_child_has_of_its_parent_and_what_it_has_anew(self):
        # The one who forks has all sixteen things other than at first, but those that one who runs cannot have.
        house = parted((("send", "hang", 0), ("send", "halt", 0), ("send", "on", 0), ("send", "quit", 0)), (
            ("exec", "b"),
        ), b=(
            ("session",), ("taker",), ("handle", "kin", "ignore"), ("handle", "hang", (7, ("rest",))),
            ("mask", ("quit",)), ("fork",), ("pause",), ("fork",), ("fork",), ("pause",),
        ))
        run(house, *[C] * 7, P, P, C, P, C, P)
        mask, handlers = ("hang", "quit", "rest"), (("hang", (7, ("rest",))), ("kin", "ignore"))
        pile = ((7, ("quit",)),)
        self.assertEqual(house.person(C), (
            P, C, C, "runs", None, "b", 7, 1, mask, ("quit",), handlers, pile, 1, True, True, "on",
        ))
        self.takes(house, C, [("fork", C, (0, 1))], {
            C: {"row": 8, "last": 2, "born": 2},
            (0, 1): (C, C, C, "runs", None, "b", 8, 0, mask, (), handlers, pile, 0, False, False, None),
        })

    def test_a_child_stands_where_its_parent_stands(self):
        house = grown(Node((("group", 0, "new"),), Node((("fork",),))))
        run(house, P, C)
        self.has(house, CC, group=C, session=P)

    def test_a_child_returns_to_where_its_parent_was(self):
        house = house_of(("handle", "call", (3, ())), ("send", "call", "self"), ("pause",),
                         ("fork",), ("return",), ("end", 0))
        run(house, P, P, P, P)
        self.has(house, C, row=4, mask=("call",), pile=((3, ()),))
        self.takes(house, C, [("return", C)], {C: {"row": 3, "mask": (), "pile": ()}})
        self.has(house, P, pile=((3, ()),), mask=("call",))

    def test_names_never_come_again(self):
        house = house_of("again", ("fork",), ("if", 0, "c"), ("wait", None, False), ("goto", "again"), "c", ("end", 1))
        for k in range(12):
            self.assertEqual(run(house, P)[0], ("fork", P, (k,)))
            run(house, P, (k,), (k,), P, P)
            self.assertEqual(house.names(), (P,))
            self.assertRaises(NoOne, house.person, (k,))
        self.has(house, P, born=12)

    def test_a_child_is_apart_from_its_parent(self):
        house = parted((("handle", "call", "ignore"), ("mask", ("on",))), (("mask", ("kin",)),))
        run(house, P, P, C)
        self.has(house, P, mask=("on",), handlers=(("call", "ignore"),))
        self.has(house, C, mask=("kin",), handlers=())


class Taker(Case):
    def test_by_the_first_one_and_a_child(self):
        house = parted((("taker",), ("taker",)), (("taker",),))
        self.takes(house, P, [("taker", P)], {P: {"row": 3, "last": 0, "taker": True}})
        self.takes(house, P, [("taker", P)], {P: {"row": 4}})
        self.takes(house, C, [("taker", C)], {C: {"row": 6, "taker": True}})

    def test_it_stays_behind_exec(self):
        house = parted((), (("taker",), ("exec", "b")), b=(("pause",),))
        run(house, C, C)
        self.has(house, C, taker=True, changed=True)


class Ends(Case):
    def test_by_the_row(self):
        for n in (0, 1, 99):
            house = parted((), (("return",), ("end", n)))
            run(house, C)
            self.takes(house, C, [("ended", C, n), ("fell", P, "kin")], {C: {"how": "ended", "word": n}})
            self.has(house, C, row=4, last=-1)

    def test_held_and_pile_are_emptied_and_all_else_stays(self):
        house = parted((("send", "call", 0), ("send", "hang", 0), ("send", "hang", 0)), (
            ("taker",), ("handle", "hang", ("h", ("on",))), ("mask", ("call",)), ("pause",), "h", ("end", 8),
        ))
        run(house, C, C, C, P, P, C, P)
        self.has(house, C, held=("hang", "call"), pile=((10, ("call",)),), mask=("on", "hang", "call"), row=10)
        self.takes(house, C, [("ended", C, 8), ("fell", P, "kin")],
                   {C: {"how": "ended", "word": 8, "held": (), "pile": ()}})
        self.has(house, C, row=10, taker=True, handlers=(("hang", (10, ("on",))),), mask=("on", "hang", "call"))

    def test_by_each_signal_that_ends(self):
        for signal in ("kill", "hang", "quit", "call"):
            house = parted((("send", signal, 0),), (("return",), ("say", 1)))
            run(house, C, P)
            self.takes(house, C, [("struck", C, signal), ("ended", C, signal), ("fell", P, "kin")],
                       {C: {"how": "ended", "word": signal, "held": ()}})
            self.has(house, C, row=5, last=-1)

    def test_the_first_one_never_ends(self):
        house = house_of(("mask", ("on",)), ("end", 3))
        run(house, P)
        for _ in range(3):
            self.idles(house, P, "rests")
        self.has(house, P, row=1, last=0, how="runs", word=None)

    def test_the_parent_that_handles_kin_is_called(self):
        house = parted((("handle", "kin", (0, ())),), (("end", 1),))
        run(house, P)
        self.takes(house, C, [("ended", C, 1), ("held", P, "kin")],
                   {C: {"how": "ended", "word": 1}, P: {"held": ("kin",)}})

    def test_two_ends_are_merged_into_one_call(self):
        house = grown(Node((("handle", "kin", (0, ())),), Node((("end", 1),)), Node((("end", 2),))))
        run(house, P)
        self.assertEqual(run(house, C, D), (
            ("ended", C, 1), ("held", P, "kin"), ("ended", D, 2), ("merged", P, "kin"),
        ))

    def test_the_parent_that_ignores_kin_lets_go(self):
        house = parted((("handle", "kin", "ignore"),), (("end", 1),))
        run(house, P)
        self.takes(house, C, [("ended", C, 1), ("let", C)], {C: None})
        self.assertEqual(house.names(), (P,))

    def test_one_that_ended_ahead_of_the_wish_still_lies(self):
        house = parted((("handle", "kin", "ignore"), ("wait", None, False)), (("end", 1),))
        run(house, C)
        self.takes(house, P, [("handle", P, "kin")], {P: {"row": 3, "last": 0, "handlers": (("kin", "ignore"),)}})
        self.takes(house, P, [("told", P, C, 1)], {P: {"row": 4, "last": 1}, C: None})


class TakenUp(Case):
    def test_by_the_first_one_where_nobody_is_a_taker(self):
        house = grown(Node((), Node((), Node((("end", 1),), Node(()), Node(())))))
        self.takes(house, CC, [
            ("ended", CC, 1), ("taken", CCC, P), ("taken", (0, 0, 1), P), ("fell", C, "kin"),
        ], {CC: {"how": "ended", "word": 1}, CCC: {"parent": P}, (0, 0, 1): {"parent": P}})

    def test_by_the_parent_if_it_is_a_taker(self):
        house = grown(Node((("taker",),), Node((("taker",),), Node((("end", 1),), Node(())))))
        run(house, P, C)
        self.takes(house, CC, [("ended", CC, 1), ("taken", CCC, C), ("fell", C, "kin")],
                   {CC: {"how": "ended", "word": 1}, CCC: {"parent": C}})

    def test_by_one_further_up(self):
        house = grown(Node((), Node((("taker",),), Node((), Node((("end", 1),), Node(()))))))
        run(house, C)
        self.takes(house, CCC, [("ended", CCC, 1), ("taken", (0, 0, 0, 0), C), ("fell", CC, "kin")],
                   {CCC: {"how": "ended", "word": 1}, (0, 0, 0, 0): {"parent": C}})

    def test_by_the_nearest_of_two(self):
        house = grown(Node((), Node((("taker",),), Node((("taker",),), Node((), Node((("end", 1),), Node(())))))))
        run(house, C, CC)
        self.assertEqual(run(house, (0, 0, 0, 0)), (
            ("ended", (0, 0, 0, 0), 1), ("taken", (0,) * 5, CC), ("fell", CCC, "kin"),
        ))

    def test_not_by_one_that_is_a_taker_itself_and_ends(self):
        house = grown(Node((), Node((("taker",), ("end", 1)), Node(()))))
        run(house, C)
        self.assertEqual(run(house, C), (("ended", C, 1), ("taken", CC, P), ("fell", P, "kin")))

    def test_not_by_a_taker_aside(self):
        house = grown(Node((), Node((("end", 1),), Node(())), Node((("taker",),))))
        run(house, D)
        self.assertEqual(run(house, C)[1], ("taken", CC, P))

    def test_the_ways_up_go_by_parents_not_by_names(self):
        # CCC was taken up by the first one, so C above its name takes nothing up behind it.
        house = grown(Node((), Node((("taker",),), Node((("end", 1),), Node((("end", 2),), Node(()))))))
        run(house, CC, C)
        self.has(house, CCC, parent=P)
        self.assertEqual(run(house, CCC), (("ended", CCC, 2), ("taken", (0, 0, 0, 0), P), ("fell", P, "kin")))

    def test_names_and_places_stay(self):
        house = grown(Node((("group", 0, "new"),), Node((("fork",), ("end", 1)))))
        run(house, P, C, C)
        self.has(house, CC, parent=P, group=C, session=P)

    def test_children_that_had_ended_are_told_of_to_the_taker(self):
        house = grown(Node((("handle", "kin", (0, ())),), Node(
            (("end", 1),), Node((("end", 2),)), Node(()), Node((("end", 3),)),
        )))
        run(house, P, CC, (0, 2))
        self.has(house, P, held=())
        self.takes(house, C, [
            ("ended", C, 1),
            ("taken", CC, P), ("held", P, "kin"),
            ("taken", (0, 1), P),
            ("taken", (0, 2), P), ("merged", P, "kin"),
            ("merged", P, "kin"),
        ], {
            C: {"how": "ended", "word": 1}, CC: {"parent": P}, (0, 1): {"parent": P}, (0, 2): {"parent": P},
            P: {"held": ("kin",)},
        })

    def test_children_that_had_ended_are_let_where_the_taker_ignores_kin(self):
        house = grown(Node((("handle", "kin", "ignore"),), Node(
            (("end", 1),), Node((("end", 2),)), Node(()), Node((("end", 3),)),
        )))
        run(house, P, CC, (0, 2))
        self.takes(house, C, [
            ("ended", C, 1), ("taken", CC, P), ("let", CC), ("taken", (0, 1), P), ("taken", (0, 2), P), ("let", (0, 2)),
            ("let", C),
        ], {C: None, CC: None, (0, 1): {"parent": P}, (0, 2): None})

    def test_taker_and_parent_differ(self):
        # The parent lets its child go; the taker above is called for the child's child, which had ended.
        house = grown(Node((("taker",), ("handle", "kin", (0, ()))), Node(
            (("handle", "kin", "ignore"),), Node((("end", 1),), Node((("end", 2),))),
        )))
        run(house, P, P, C, CCC)
        self.takes(house, CC, [("ended", CC, 1), ("taken", CCC, P), ("held", P, "kin"), ("let", CC)],
                   {CC: None, CCC: {"parent": P}, P: {"held": ("kin",)}})

    def test_by_an_end_that_a_signal_makes(self):
        house = grown(Node((("send", "kill", 0),), Node((), Node(()))))
        run(house, P)
        self.takes(house, C, [("struck", C, "kill"), ("ended", C, "kill"), ("taken", CC, P), ("fell", P, "kin")],
                   {C: {"how": "ended", "word": "kill", "held": ()}, CC: {"parent": P}})

    def test_children_rise_as_tuples(self):
        house = grown(Node((), Node((("end", 1),), *[Node(()) for _ in range(12)])))
        events = run(house, C)
        self.assertEqual(events[1:-1], tuple(("taken", (0, k), P) for k in range(12)))

    def test_children_rise_whoever_came_first(self):
        house = grown(Node((), Node((("taker",), ("end", 1)), Node((("fork",), ("end", 2))), Node(()))))
        run(house, C, CC, CC)
        # CCC came behind its parent's brother, and goes ahead of it.
        self.has(house, CCC, parent=C)
        self.assertEqual(run(house, C), (
            ("ended", C, 1), ("taken", CC, P), ("fell", P, "kin"), ("taken", CCC, P), ("taken", (0, 1), P),
            ("fell", P, "kin"),
        ))

    def test_taken_children_are_taken_up_again(self):
        house = grown(Node((), Node((("taker",), ("end", 1)), Node((("end", 2),), Node(())), Node(()))))
        run(house, C, CC)
        self.has(house, CCC, parent=C)
        self.assertEqual(run(house, C), (
            ("ended", C, 1), ("taken", CC, P), ("fell", P, "kin"), ("taken", CCC, P), ("taken", (0, 1), P),
            ("fell", P, "kin"),
        ))


class Wait(Case):
    def test_no_child_at_all(self):
        for which in (None, 0, 5):
            for stops in (True, False):
                house = parted((), (("wait", which, stops),))
                self.lacks(house, C)
                house = house_of(("wait", which, stops), ("pause",))
                self.lacks(house, P)

    def test_idles_while_none_has_ended(self):
        for which in (None, 0):
            for stops in (True, False):
                house = parted((("wait", which, stops),), ())
                self.idles(house, P, "waits")
                self.idles(house, P, "waits")
                self.has(house, P, row=2, last=1)

    def test_told_of_a_number(self):
        for which in (None, 0):
            for stops in (True, False):
                for n in (2, 99):
                    house = parted((("wait", which, stops),), (("end", n),))
                    run(house, C)
                    self.takes(house, P, [("told", P, C, n)], {P: {"row": 3, "last": n}, C: None})

    def test_told_of_the_number_0(self):
        house = parted((("wait", None, False),), (("end", 0),))
        run(house, C)
        self.takes(house, P, [("told", P, C, 0)], {P: {"row": 3, "last": 0}, C: None})

    def test_told_of_each_signal(self):
        for signal in ("kill", "hang", "quit", "call"):
            house = parted((("send", signal, 0), ("wait", 0, False)), ())
            run(house, P, C)
            self.takes(house, P, [("told", P, C, signal)],
                       {P: {"row": 4, "last": 100 + SIGNALS.index(signal)}, C: None})

    def test_by_a_child_of_its_child(self):
        house = grown(Node((), Node((("wait", None, False),), Node((("end", 6),)))))
        self.idles(house, C, "waits")
        run(house, CC)
        self.takes(house, C, [("told", C, CC, 6)], {C: {"row": 6, "last": 6}, CC: None})

    def test_the_least_name_of_those_that_ended(self):
        family = [Node((("end", k),)) for k in range(12)]
        house = grown(Node([("wait", None, False)] * 4, *family))
        run(house, (11,), (2,), (10,))
        self.assertEqual(run(house, P, P, P, P), (
            ("told", P, (2,), 2), ("told", P, (10,), 10), ("told", P, (11,), 11), ("idle", P, "waits"),
        ))

    def test_the_least_name_whoever_came_first(self):
        house = grown(Node([("wait", None, False)] * 3, Node((("fork",), ("if", 0, "e"), ("end", 1), "e", ("end", 2))),
                           Node((("end", 3),))))
        run(house, C, C, CC, C, P, D, CC)
        self.assertEqual(run(house, P, P), (("told", P, CC, 2), ("told", P, D, 3)))

    def test_for_one(self):
        house = grown(Node((("wait", 1, False), ("wait", 1, False), ("wait", 0, False)),
                           Node((("end", 3),)), Node((("end", 4),))))
        run(house, C)
        self.idles(house, P, "waits")
        run(house, D)
        self.takes(house, P, [("told", P, D, 4)], {P: {"row": 5, "last": 4}, D: None})
        self.lacks(house, P)
        self.takes(house, P, [("told", P, C, 3)], {P: {"row": 7, "last": 3}, C: None})

    def test_for_one_that_never_was(self):
        house = grown(Node((("wait", 1, False), ("wait", 99, True)), Node((("end", 3),))))
        self.lacks(house, P)
        run(house, C)
        self.lacks(house, P)

    def test_for_one_that_was_let_go(self):
        house = parted((("handle", "kin", "ignore"), ("wait", 0, False), ("wait", None, False)), (("end", 1),))
        run(house, P, C)
        self.lacks(house, P)
        self.lacks(house, P)

    def test_one_that_was_taken_up_is_waited_for_by_none_alone(self):
        house = grown(Node((("wait", 0, False), ("wait", 0, False), ("wait", None, False), ("wait", None, False)),
                           Node((("end", 1),), Node((("end", 2),)))))
        run(house, C, P)
        self.lacks(house, P)
        self.idles(house, P, "waits")
        run(house, CC)
        self.takes(house, P, [("told", P, CC, 2)], {P: {"row": 5, "last": 2}, CC: None})
        self.lacks(house, P)

    def test_the_least_of_own_and_taken_up(self):
        house = grown(Node([("wait", None, False)] * 4, Node((("end", 1),), Node((("end", 2),))), Node((("end", 3),))))
        run(house, C, P, D, CC)
        self.assertEqual(run(house, P, P, P), (("told", P, CC, 2), ("told", P, D, 3), ("lack", P)))

    def test_a_grandchild_is_no_child(self):
        house = grown(Node((("wait", None, False),), Node((), Node((("end", 2),)))))
        run(house, CC)
        self.idles(house, P, "waits")

    def test_stops_are_told_where_they_are_asked_for(self):
        for signal in ("halt", "rest", "reads"):
            house = parted((("send", signal, 0), ("wait", None, False), ("pause",)), ())
            run(house, P, C)
            self.idles(house, P, "waits")
            house = parted((("send", signal, 0), ("wait", None, True), ("wait", 0, True)), ())
            run(house, P)
            self.idles(house, P, "waits")
            run(house, C)
            self.takes(house, P, [("told", P, C, "stopped")], {P: {"row": 4, "last": 200}, C: {"news": None}})
            self.has(house, C, how="stopped")
            self.idles(house, P, "waits")

    def test_on_is_told(self):
        house = parted((("send", "halt", 0), ("send", "on", 0), ("wait", 0, True), ("wait", 0, True)), ())
        run(house, P, C, P)
        self.has(house, C, news="on")
        self.takes(house, P, [("told", P, C, "on")], {P: {"row": 5, "last": 300}, C: {"news": None}})
        self.idles(house, P, "waits")

    def test_an_end_goes_ahead_of_news(self):
        house = parted((("send", "halt", 0), ("send", "kill", 0), ("wait", 0, True), ("wait", 0, True)), ())
        run(house, P, C, P, C)
        self.has(house, C, how="ended", news="stopped")
        self.takes(house, P, [("told", P, C, "kill")], {P: {"row": 5, "last": 100}, C: None})
        self.lacks(house, P)

    def test_news_are_no_end_where_stops_are_not_asked_for(self):
        house = parted((("send", "halt", 0), ("send", "kill", 0), ("wait", 0, False)), ())
        run(house, P, C, P, C)
        self.takes(house, P, [("told", P, C, "kill")], {P: {"row": 5, "last": 100}, C: None})

    def test_the_least_of_news_and_ends(self):
        sent = (("send", "halt", 0), ("send", "halt", 2), ("wait", None, True), ("wait", None, True),
                ("wait", None, True), ("wait", None, True))
        house = grown(Node(sent, Node(()), Node((("end", 5),)), Node(())))
        run(house, P, P, C, D, E)
        self.assertEqual(run(house, P, P, P, P), (
            ("told", P, C, "stopped"), ("told", P, D, 5), ("told", P, E, "stopped"), ("idle", P, "waits"),
        ))

    def test_without_stops_the_least_that_ended(self):
        house = grown(Node((("send", "halt", 0), ("wait", None, False)), Node(()), Node((("end", 5),))))
        run(house, P, C, D)
        self.takes(house, P, [("told", P, D, 5)], {P: {"row": 6, "last": 5}, D: None})

    def test_the_newest_news_alone_are_told(self):
        house = parted((("send", "halt", 0), ("send", "on", 0), ("send", "halt", 0), ("wait", 0, True),
                        ("wait", 0, True)), ())
        run(house, P, C, P, P, C)
        self.assertEqual(run(house, P, P), (("told", P, C, "stopped"), ("idle", P, "waits")))

    def test_one_that_waits_is_called_by_a_handler_and_waits_again(self):
        house = parted((("handle", "kin", ("h", ())), ("wait", 0, False), ("pause",), "h", ("return",)), (("end", 9),))
        run(house, P)
        self.idles(house, P, "waits")
        run(house, C)
        self.assertEqual(run(house, P, P, P), (("begun", P, "kin"), ("return", P), ("told", P, C, 9)))


if __name__ == "__main__":
    unittest.main()
