"""Masks and handlers: mask, unmask, handle, what falls behind handle, handlers that begin and return, pause."""

import unittest

from scenes import SIGNALS, Case, Node, grown, house_of, parted, run

P, C = (), (0,)
CC = (0, 0)
LOOSE = SIGNALS[2:]


class Mask(Case):
    def test_by_the_first_one_and_a_child(self):
        house = parted((("mask", ("kin",)), ("unmask", ("kin",))), (("mask", ("on", "reads")), ("unmask", ("on",))))
        self.takes(house, P, [("mask", P, ("kin",))], {P: {"row": 3, "last": 0, "mask": ("kin",)}})
        self.takes(house, P, [("mask", P, ())], {P: {"row": 4, "mask": ()}})
        self.takes(house, C, [("mask", C, ("on", "reads"))], {C: {"row": 6, "mask": ("on", "reads")}})
        self.takes(house, C, [("mask", C, ("reads",))], {C: {"row": 7, "mask": ("reads",)}})

    def test_these_more_rising(self):
        house = house_of(("mask", ("kin", "rest")), ("mask", ("on", "kin")), ("mask", ()), ("mask", LOOSE))
        self.assertEqual(run(house, *[P] * 4), (
            ("mask", P, ("kin", "rest")), ("mask", P, ("on", "kin", "rest")), ("mask", P, ("on", "kin", "rest")),
            ("mask", P, LOOSE),
        ))

    def test_these_no_more(self):
        house = house_of(("unmask", ("on",)), ("mask", LOOSE), ("unmask", ("hang", "rest")), ("unmask", ()),
                         ("unmask", ("on", "hang")), ("unmask", LOOSE))
        self.assertEqual(run(house, *[P] * 6), (
            ("mask", P, ()), ("mask", P, LOOSE), ("mask", P, ("on", "quit", "call", "kin", "reads")),
            ("mask", P, ("on", "quit", "call", "kin", "reads")), ("mask", P, ("quit", "call", "kin", "reads")),
            ("mask", P, ()),
        ))

    def test_last_is_0_behind_them(self):
        house = house_of(("return",), ("mask", ()), ("return",), ("unmask", ()))
        run(house, P, P)
        self.has(house, P, last=0, row=2)
        run(house, P, P)
        self.has(house, P, last=0, row=4)

    def test_what_is_masked_is_held_until_it_is_unmasked(self):
        for signal in ("hang", "quit", "call", "rest", "reads"):
            house = parted((("send", signal, 0),), (
                ("mask", (signal,)), ("say", 1), ("unmask", ("on",)), ("unmask", (signal,)), ("say", 2),
            ))
            run(house, C, P)
            self.assertEqual(run(house, C, C, C), (("said", C, 1), ("mask", C, (signal,)), ("mask", C, ())))
            self.has(house, C, held=(signal,))
            self.assertEqual(run(house, C)[0], ("struck", C, signal))

    def test_sure_ones_are_delivered_whatever_is_masked(self):
        for signal in ("kill", "halt"):
            house = parted((("send", signal, 0),), (("mask", LOOSE), ("say", 1)))
            run(house, C, P)
            self.assertEqual(run(house, C)[0], ("struck", C, signal))

    def test_those_unmasked_at_once_are_delivered_one_by_one(self):
        house = parted((("send", "rest", 0), ("send", "call", 0)), (
            ("handle", "rest", ("h", ())), ("handle", "call", ("h", ())), ("mask", LOOSE), ("unmask", LOOSE), ("say", 1),
            "h", ("return",),
        ))
        run(house, C, C, C, P, P, C)
        self.assertEqual(run(house, *[C] * 5), (
            ("begun", C, "call"), ("begun", C, "rest"), ("return", C), ("return", C), ("said", C, 1),
        ))


class Handle(Case):
    def test_by_the_first_one_and_a_child(self):
        house = parted((("handle", "call", "ignore"),), (("handle", "call", (0, ("on",))),))
        self.takes(house, P, [("handle", P, "call")], {P: {"row": 3, "last": 0, "handlers": (("call", "ignore"),)}})
        self.takes(house, C, [("handle", C, "call")], {C: {"row": 5, "handlers": (("call", (0, ("on",))),)}})

    def test_handlers_rise_and_plain_ones_are_none(self):
        house = house_of(
            ("handle", "reads", "ignore"), ("handle", "hang", (3, ())), ("handle", "on", "ignore"),
            ("handle", "call", "plain"), ("handle", "hang", "ignore"), ("handle", "reads", (0, ("kin", "rest"))),
            ("handle", "on", "plain"), ("handle", "hang", "plain"), ("handle", "reads", "plain"),
        )
        wanted = (
            (("reads", "ignore"),),
            (("hang", (3, ())), ("reads", "ignore")),
            (("on", "ignore"), ("hang", (3, ())), ("reads", "ignore")),
            (("on", "ignore"), ("hang", (3, ())), ("reads", "ignore")),
            (("on", "ignore"), ("hang", "ignore"), ("reads", "ignore")),
            (("on", "ignore"), ("hang", "ignore"), ("reads", (0, ("kin", "rest")))),
            (("hang", "ignore"), ("reads", (0, ("kin", "rest")))),
            (("reads", (0, ("kin", "rest"))),),
            (),
        )
        signals = ("reads", "hang", "on", "call", "hang", "reads", "on", "hang", "reads")
        for signal, handlers in zip(signals, wanted):
            self.assertEqual(run(house, P), (("handle", P, signal),))
            self.has(house, P, handlers=handlers)

    def test_last_is_0_behind_it(self):
        house = house_of(("return",), ("handle", "on", "plain"))
        run(house, P, P)
        self.has(house, P, last=0, row=2)

    def falls(self, rows, how, signal, fallen, by=C):
        """One holds a signal that it masks and handles, and handles it otherwise then."""
        if by == P:
            house = house_of(*rows, ("mask", (signal,)), ("send", signal, "self"), ("handle", signal, how))
            run(house, *[P] * (len(rows) + 2))
        else:
            house = parted((("send", signal, 0),), (*rows, ("mask", (signal,)), ("handle", signal, how)))
            run(house, *[C] * (len(rows) + 1), P)
        self.has(house, by, held=(signal,))
        events = run(house, by)
        self.assertEqual(events, (("handle", by, signal), *([("fell", by, signal)] if fallen else [])))
        self.has(house, by, held=() if fallen else (signal,))

    def test_what_is_held_falls_where_it_is_ignored_now(self):
        for signal in LOOSE:
            self.falls((("handle", signal, (0, ())),), "ignore", signal, True)
            self.falls((("handle", signal, (0, ())),), "ignore", signal, True, P)

    def test_on_and_kin_fall_where_they_are_plain_now(self):
        for signal in LOOSE:
            self.falls((("handle", signal, (0, ())),), "plain", signal, signal in ("on", "kin"))

    def test_at_the_first_one_all_fall_that_are_plain_now(self):
        for signal in LOOSE:
            self.falls((("handle", signal, (0, ())),), "plain", signal, True, P)

    def test_none_falls_by_another_handler(self):
        for signal in LOOSE:
            self.falls((("handle", signal, (0, ())),), (1, LOOSE), signal, False)
            self.falls((("handle", signal, (0, ())),), (1, LOOSE), signal, False, P)

    def test_none_falls_by_the_handling_of_another_signal(self):
        house = parted((("send", "call", 0), ("send", "quit", 0)), (
            ("mask", ("quit", "call")), ("handle", "quit", "ignore"), ("handle", "hang", "ignore"),
        ))
        run(house, C, P, P)
        self.takes(house, C, [("handle", C, "quit"), ("fell", C, "quit")],
                   {C: {"row": 7, "handlers": (("quit", "ignore"),), "held": ("call",)}})
        self.takes(house, C, [("handle", C, "hang")], {C: {"row": 8, "handlers": (("hang", "ignore"), ("quit", "ignore"))}})

    def test_kill_and_halt_do_not_fall(self):
        house = parted((("send", "halt", 0), ("send", "kill", 0)), (("handle", "call", "ignore"),))
        run(house, P, P)
        self.has(house, C, held=("kill", "halt"))


class Begun(Case):
    def test_by_the_first_one(self):
        house = house_of(("handle", "call", ("h", ("on", "rest"))), ("mask", ("kin",)), ("send", "call", "self"), ("say", 1),
                         "h", ("say", 2))
        run(house, P, P, P)
        self.takes(house, P, [("begun", P, "call")], {
            P: {"row": 4, "mask": ("on", "call", "kin", "rest"), "held": (), "pile": ((3, ("kin",)),)},
        })
        self.assertEqual(run(house, P), (("said", P, 2),))

    def test_by_a_child(self):
        house = parted((("send", "on", 0),), (("handle", "on", ("h", ())), ("say", 1), "h", ("say", 2)))
        run(house, C, P)
        self.takes(house, C, [("begun", C, "on")], {C: {"row": 6, "mask": ("on",), "held": (), "pile": ((5, ()),)}})

    def test_each_signal_that_can_be_handled(self):
        for signal in LOOSE:
            house = parted((("send", signal, 0),), (("handle", signal, ("h", LOOSE)), ("say", 1), "h", ("say", 2)))
            run(house, C, P)
            self.takes(house, C, [("begun", C, signal)], {C: {"row": 6, "mask": LOOSE, "held": (), "pile": ((5, ()),)}})

    def test_last_stays(self):
        house = parted((("send", "on", 0),), (("handle", "on", (0, ())), ("return",)))
        run(house, C, C, P, C)
        self.has(house, C, last=-1)

    def test_out_of_a_pause_it_comes_back_behind_it(self):
        house = parted((("send", "on", 0),), (("handle", "on", ("h", ())), ("pause",), ("say", 1), "h", ("return",)))
        run(house, C)
        self.idles(house, C, "pauses")
        run(house, P, C)
        self.has(house, C, pile=((6, ()),))
        self.assertEqual(run(house, C, C), (("return", C), ("said", C, 1)))

    def test_out_of_a_pause_that_is_the_last_row(self):
        house = house_of(("handle", "on", (2, ())), ("goto", 3), ("return",), ("pause",))
        run(house, P, P, ("key", P, "on"), P)
        self.has(house, P, pile=((4, ()),))
        self.assertEqual(run(house, P, P), (("return", P), ("idle", P, "rests")))

    def test_behind_the_last_row(self):
        house = house_of(("handle", "on", (1, ())), ("say", 1), ("return",))
        run(house, P, P, P)
        self.has(house, P, row=3)
        run(house, ("key", P, "on"), P)
        self.has(house, P, row=1, pile=((3, ()),))

    def test_a_second_pause_is_not_left(self):
        house = parted((("send", "on", 0),), (("handle", "on", ("h", ())), ("pause",), ("pause",), "h", ("return",)))
        run(house, C, P, C, C)
        self.idles(house, C, "pauses")
        self.has(house, C, row=6)

    def test_a_handler_within_a_handler(self):
        house = parted((("send", "call", 0), ("send", "hang", 0), ("send", "call", 0)), (
            ("handle", "call", ("h", ("kin",))), ("handle", "hang", ("g", ("rest",))), ("mask", ("reads",)), ("pause",),
            "h", ("say", 1), ("return",), "g", ("say", 2), ("return",),
        ))
        run(house, C, C, C, P, C)
        self.has(house, C, row=10, mask=("call", "kin", "reads"), pile=((10, ("reads",)),))
        run(house, P, P, C)
        self.has(house, C, row=12, mask=("hang", "call", "kin", "rest", "reads"), held=("call",),
                 pile=((10, ("reads",)), (10, ("call", "kin", "reads"))))
        self.assertEqual(run(house, *[C] * 5), (
            ("said", C, 2), ("return", C), ("said", C, 1), ("return", C), ("begun", C, "call"),
        ))
        self.has(house, C, mask=("call", "kin", "reads"), pile=((10, ("reads",)),))

    def test_it_masks_itself_until_it_returns(self):
        house = parted((("send", "on", 0), ("send", "on", 0)), (("handle", "on", ("h", ())), "h", ("say", 1), ("return",)))
        run(house, C, P, C, P)
        self.assertEqual(run(house, C, C, C), (("said", C, 1), ("return", C), ("begun", C, "on")))

    def test_it_may_unmask_itself(self):
        house = parted((("send", "on", 0), ("send", "on", 0)), (
            ("handle", "on", ("h", ())), ("pause",), "h", ("unmask", ("on",)), ("say", 1), ("return",),
        ))
        run(house, C, P, C, P)
        self.assertEqual(run(house, C, C), (("mask", C, ()), ("begun", C, "on")))
        self.has(house, C, pile=((7, ()), (8, ())))


class Return(Case):
    def test_without_a_handler(self):
        house = parted((("return",),), (("return",),))
        self.lacks(house, P)
        self.lacks(house, C)

    def test_row_and_mask_are_as_they_were_ahead(self):
        house = parted((("send", "call", 0),), (
            ("handle", "call", ("h", ("on", "kin"))), ("mask", ("rest",)), ("say", 1),
            "h", ("mask", ("hang",)), ("unmask", ("call", "rest")), ("return",), ("return",),
        ))
        run(house, C, C, P, C, C, C)
        self.has(house, C, mask=("on", "hang", "kin"), pile=((6, ("rest",)),))
        self.takes(house, C, [("return", C)], {C: {"row": 6, "mask": ("rest",), "pile": ()}})
        self.assertEqual(run(house, C), (("said", C, 1),))

    def test_last_stays(self):
        house = house_of(("handle", "call", (5, ())), ("read",), ("send", "call", "self"), ("fork",), ("pause",),
                         ("return",), typed=(7,))
        run(house, P, P, ("key", P, "call"), P)
        self.has(house, P, last=7, row=5)
        self.takes(house, P, [("return", P)], {P: {"row": 2, "mask": (), "pile": ()}})
        self.has(house, P, last=7)

    def test_what_the_handler_did_last_stays_too(self):
        house = house_of(("handle", "call", (3, ())), ("send", "call", "self"), ("pause",), ("fork",), ("return",))
        run(house, P, P, P, P)
        self.has(house, P, last=1)
        self.takes(house, P, [("return", P)], {P: {"row": 3, "mask": (), "pile": ()}})

    def test_one_too_many(self):
        house = house_of(("handle", "call", (2, ())), ("send", "call", "self"), ("return",), ("say", 1))
        run(house, P, P, P)
        self.assertEqual(run(house, P, P, P), (("return", P), ("lack", P), ("said", P, 1)))


class Pause(Case):
    def test_by_the_first_one_and_a_child(self):
        house = parted((("pause",),), (("pause",),))
        self.idles(house, P, "pauses")
        self.idles(house, C, "pauses")
        self.idles(house, C, "pauses")

    def test_what_falls_or_is_masked_does_not_wake(self):
        house = parted((("send", "on", 0), ("send", "kin", 0), ("send", "call", 0)), (("mask", ("call",)), ("pause",)))
        run(house, C, P, P, P)
        self.idles(house, C, "pauses")

    def test_a_stop_and_on_do_not_end_it(self):
        house = parted((("send", "halt", 0), ("send", "on", 0)), ())
        run(house, P, C, P)
        self.idles(house, C, "pauses")

    def test_an_end_does(self):
        house = grown(Node((), Node((("handle", "kin", ("h", ())), ("pause",), ("say", 1), "h", ("return",)),
                                    Node((("end", 0),)))))
        run(house, C)
        self.idles(house, C, "pauses")
        self.assertEqual(run(house, CC, C, C, C), (
            ("ended", CC, 0), ("held", C, "kin"), ("begun", C, "kin"), ("return", C), ("said", C, 1),
        ))


if __name__ == "__main__":
    unittest.main()
