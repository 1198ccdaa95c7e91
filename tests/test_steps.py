"""Steps: the order in which they are decided, idling, put and key, and the rows say, goto, if, exec."""

import unittest

from scenes import SIGNALS, Case, house_of, parted, run

P, C = (), (0,)


class Order(Case):
    def test_one_that_has_ended_idles(self):
        house = parted((("send", "kill", 0), ("send", "call", 0)), (("end", 5),))
        run(house, C)
        self.idles(house, C, "ended")
        run(house, P, P)
        self.idles(house, C, "ended")

    def test_one_that_is_stopped_idles_whatever_it_holds_but_kill(self):
        sent = [("send", signal, 0) for signal in ("halt", "hang", "quit", "call", "rest", "reads")]
        house = parted(sent, ())
        run(house, P, C)
        self.idles(house, C, "stopped")
        for _ in sent[1:]:
            run(house, P)
            self.idles(house, C, "stopped")
        self.has(house, C, how="stopped", held=("hang", "quit", "call", "rest", "reads"))

    def test_kill_is_delivered_to_one_that_is_stopped(self):
        house = parted((("send", "halt", 0), ("send", "hang", 0), ("send", "kill", 0)), ())
        run(house, P, C, P, P)
        self.has(house, C, how="stopped", held=("kill", "hang"))
        self.takes(house, C, [("struck", C, "kill"), ("ended", C, "kill"), ("fell", P, "kin")],
                   {C: {"how": "ended", "word": "kill", "held": ()}})

    def test_kill_goes_ahead_of_all_that_is_held(self):
        house = parted((("send", "hang", 0), ("send", "halt", 0), ("send", "kill", 0)), (("say", 1),))
        run(house, P, P, P)
        self.has(house, C, held=("kill", "halt", "hang"))
        self.assertEqual(run(house, C)[0], ("struck", C, "kill"))

    def test_the_first_held_one_that_is_not_masked_is_delivered(self):
        child = [("handle", signal, ("h", ())) for signal in SIGNALS[2:]]
        sent = [("send", signal, 0) for signal in ("call", "quit", "hang", "rest")]
        house = parted(sent, (*child, ("mask", ("hang", "quit")), ("goto", "go"), "h", ("say", 9), "go"))
        run(house, *[C] * 9, *[P] * 4)
        self.has(house, C, held=("hang", "quit", "call", "rest"), mask=("hang", "quit"))
        self.assertEqual(run(house, C), (("begun", C, "call"),))
        self.assertEqual(run(house, C), (("begun", C, "rest"),))
        self.assertEqual(run(house, C), (("said", C, 9),))
        self.has(house, C, held=("hang", "quit"), mask=("hang", "quit", "call", "rest"))

    def test_signals_are_delivered_ahead_of_the_row(self):
        house = parted((("send", "halt", 0), ("send", "on", 0)), (("say", 1), ("say", 2)))
        self.assertEqual(run(house, C), (("said", C, 1),))
        run(house, P)
        self.assertEqual(run(house, C)[0], ("struck", C, "halt"))
        run(house, P)
        self.assertEqual(run(house, C), (("said", C, 2),))

    def test_a_row_is_done_where_all_that_is_held_is_masked(self):
        house = parted((("send", "call", 0),), (("mask", ("call",)), ("say", 1), ("say", 2)))
        run(house, C, P)
        self.assertEqual(run(house, C, C), (("said", C, 1), ("said", C, 2)))
        self.has(house, C, held=("call",))

    def test_behind_the_last_row_a_child_ends_by_0(self):
        house = house_of(("fork",))
        run(house, P)
        self.has(house, C, row=1)
        self.takes(house, C, [("ended", C, 0), ("fell", P, "kin")], {C: {"how": "ended", "word": 0}})

    def test_behind_the_last_row_the_first_one_rests(self):
        house = house_of(("say", 1))
        run(house, P)
        self.has(house, P, row=1)
        self.idles(house, P, "rests")
        self.idles(house, P, "rests")

    def test_the_first_one_that_rests_is_called_by_a_handler(self):
        house = house_of(("handle", "call", ("h", ())), ("goto", "end"), "h", ("say", 4), ("return",), "end", ("end", 1))
        run(house, P, P)
        self.idles(house, P, "rests")
        self.assertEqual(run(house, ("key", P, "call"), P, P, P, P), (
            ("keyed", P, "call"), ("held", P, "call"), ("begun", P, "call"), ("said", P, 4), ("return", P),
            ("idle", P, "rests"),
        ))

    def test_behind_the_last_row_by_a_lack_and_by_if(self):
        house = house_of(("fork",), ("if", 7, 0))
        run(house, P)
        self.takes(house, C, [("went", C, 2)], {C: {"row": 2}})
        self.assertEqual(run(house, C)[0], ("ended", C, 0))
        house = house_of(("return",))
        self.lacks(house, P)
        self.idles(house, P, "rests")


class Outside(Case):
    def test_put_is_behind_what_is_typed(self):
        house = house_of(("pause",), typed=(5,))
        self.takes(house, ("put", P, 0), [("typed", P, 0)], {("typed", P): (5, 0)})
        self.takes(house, ("put", P, 99), [("typed", P, 99)], {("typed", P): (5, 0, 99)})
        self.takes(house, ("put", P, 5), [("typed", P, 5)], {("typed", P): (5, 0, 99, 5)})

    def test_put_in_the_session_that_is_named(self):
        house = parted((), (("session",),), typed=(1,))
        run(house, C)
        self.takes(house, ("put", C, 2), [("typed", C, 2)], {("typed", C): (2,)})
        self.takes(house, ("put", P, 3), [("typed", P, 3)], {("typed", P): (1, 3)})

    def test_key_to_all_that_live_of_the_front_group_rising(self):
        house = house_of(
            "more", ("fork",), ("if", 0, "c"), ("if", 3, "out"), ("goto", "more"),
            "out", ("group", 1, "new"), ("pause",), "c", ("pause",),
        )
        run(house, *[P] * 12)
        self.has(house, (1,), group=(1,))
        self.takes(
            house, ("key", P, "hang"),
            [("keyed", P, "hang"), ("fell", P, "hang"), ("held", (0,), "hang"), ("held", (2,), "hang")],
            {(0,): {"held": ("hang",)}, (2,): {"held": ("hang",)}},
        )
        run(house, (0,))
        self.takes(
            house, ("key", P, "hang"), [("keyed", P, "hang"), ("fell", P, "hang"), ("merged", (2,), "hang")],
        )

    def test_key_of_each_signal(self):
        for signal in SIGNALS:
            house = parted((), ())
            sent = ("fell", C, signal) if signal in ("on", "kin") else ("held", C, signal)
            changes = {} if signal in ("on", "kin") else {C: {"held": (signal,)}}
            self.takes(house, ("key", P, signal), [("keyed", P, signal), ("fell", P, signal), sent], changes)

    def test_key_where_nobody_is_in_front(self):
        house = parted((), (("session",),))
        run(house, C)
        for signal in SIGNALS:
            self.takes(house, ("key", C, signal), [("keyed", C, signal)])

    def test_key_reaches_those_that_are_stopped(self):
        house = parted((("send", "halt", 0),), ())
        run(house, P, C)
        self.takes(
            house, ("key", P, "on"), [("keyed", P, "on"), ("fell", P, "on"), ("on", C), ("fell", P, "kin")],
            {C: {"how": "runs", "news": "on"}},
        )


class Say(Case):
    def test_by_the_first_one_and_a_child(self):
        house = parted((("say", 0), ("say", 99)), (("say", 7),))
        self.takes(house, P, [("said", P, 0)], {P: {"row": 3, "last": 0}})
        self.takes(house, P, [("said", P, 99)], {P: {"row": 4}})
        self.takes(house, C, [("said", C, 7)], {C: {"row": 6}})

    def test_last_is_0_behind_it(self):
        house = house_of(("return",), ("say", 3))
        run(house, P)
        self.has(house, P, last=-1)
        self.takes(house, P, [("said", P, 3)], {P: {"row": 2, "last": 0}})


class Going(Case):
    def test_goto_and_last_stays(self):
        house = parted((("goto", "b"), "a", ("say", 1), "b", ("goto", "a")), (("return",), ("goto", 1)))
        self.takes(house, P, [("went", P, 4)], {P: {"row": 4}})
        self.takes(house, P, [("went", P, 3)], {P: {"row": 3}})
        self.has(house, P, last=1)
        run(house, C)
        self.takes(house, C, [("went", C, 1)], {C: {"row": 1}})
        self.has(house, C, last=-1)

    def test_goto_itself(self):
        house = house_of(("goto", 0))
        self.takes(house, P, [("went", P, 0)])

    def test_if_last_is_the_number(self):
        house = parted((("if", 1, 0),), (("if", 0, "x"), ("say", 1), "x"))
        self.takes(house, P, [("went", P, 0)], {P: {"row": 0}})
        self.takes(house, C, [("went", C, 6)], {C: {"row": 6}})
        self.has(house, P, last=1)

    def test_if_last_is_another_number(self):
        house = parted((("if", 0, 0), ("if", 2, 0), ("if", -1, 0)), (("if", 1, 0), ("if", -1, 0)))
        for row in (3, 4, 5):
            self.takes(house, P, [("went", P, row)], {P: {"row": row}})
        for row in (7, 8):
            self.takes(house, C, [("went", C, row)], {C: {"row": row}})
        self.has(house, P, last=1)
        self.has(house, C, last=0)

    def test_if_behind_a_lack(self):
        house = parted((), (("return",), ("if", 0, 0), ("if", -1, 1)))
        run(house, C, C)
        self.takes(house, C, [("went", C, 1)], {C: {"row": 1}})
        self.has(house, C, last=-1)

    def test_if_behind_a_read(self):
        house = house_of(("read",), ("if", 42, 3), ("say", 0), ("say", 1), typed=(42,))
        self.assertEqual(run(house, P, P, P), (("read", P, 42), ("went", P, 3), ("said", P, 1)))
        house = house_of(("read",), ("if", 42, 3), ("say", 0), ("say", 1), typed=(41,))
        self.assertEqual(run(house, P, P, P), (("read", P, 41), ("went", P, 2), ("said", P, 0)))

    def test_if_behind_waits(self):
        for end, last in ((("end", 7), 7), (("send", "quit", "self"), 104)):
            house = house_of(
                ("fork",), ("if", 0, "c"), ("wait", None, False), ("if", last, "yes"), ("say", 0),
                "yes", ("say", 1), "c", end, ("pause",),
            )
            run(house, P, C, C, C, P, P, P)
            self.has(house, P, row=5, last=last)
            self.assertEqual(run(house, P), (("said", P, 1),))


class Exec(Case):
    def test_by_the_first_one_and_a_child(self):
        house = parted((("exec", "b"),), (("exec", "b"),), b=(("say", 5), ("exec", "a")))
        self.takes(house, P, [("exec", P, "b")], {P: {"title": "b", "row": 0, "last": 0, "changed": True}})
        self.takes(house, C, [("exec", C, "b")], {C: {"title": "b", "row": 0, "changed": True}})
        self.assertEqual(run(house, P, C), (("said", P, 5), ("said", C, 5)))
        self.takes(house, C, [("exec", C, "a")], {C: {"title": "a", "row": 0}})

    def test_its_own_program_from_the_start(self):
        house = house_of(("say", 1), ("exec", "a"))
        self.assertEqual(run(house, P, P, P), (("said", P, 1), ("exec", P, "a"), ("said", P, 1)))

    def test_no_such_program(self):
        house = parted((("exec", "c"),), (("handle", "call", "ignore"), ("exec", "aa"), ("say", 1)), b=(("say", 5),))
        self.lacks(house, P)
        run(house, C)
        self.lacks(house, C)
        self.assertEqual(run(house, C), (("said", C, 1),))

    def test_handlers_keep_ignore_alone(self):
        house = parted((), (
            ("handle", "hang", (0, ())), ("handle", "call", "ignore"), ("handle", "on", "ignore"),
            ("handle", "reads", (1, ("on",))), ("exec", "b"),
        ), b=(("pause",),))
        run(house, *[C] * 4)
        self.takes(house, C, [("exec", C, "b")], {C: {
            "title": "b", "row": 0, "changed": True, "handlers": (("on", "ignore"), ("call", "ignore")),
        }})

    def test_pile_is_emptied_and_the_mask_stays(self):
        house = parted((("send", "hang", 0),), (
            ("handle", "hang", ("h", ("call",))), ("mask", ("quit",)), ("pause",), "h", ("exec", "b"),
        ), b=(("return",),))
        run(house, C, C, P, C)
        self.has(house, C, pile=((7, ("quit",)),), mask=("hang", "quit", "call"))
        self.takes(house, C, [("exec", C, "b")], {C: {
            "title": "b", "row": 0, "changed": True, "pile": (), "handlers": (),
        }})
        self.has(house, C, mask=("hang", "quit", "call"))
        self.lacks(house, C)

    def test_what_is_held_and_would_not_fall_stays(self):
        house = parted((("send", "hang", 0), ("send", "call", 0)), (
            ("handle", "hang", (0, ())), ("mask", ("hang", "call")), ("exec", "b"),
        ), b=(("pause",),))
        run(house, C, C, P, P)
        self.takes(house, C, [("exec", C, "b")], {C: {"title": "b", "row": 0, "changed": True, "handlers": ()}})
        self.has(house, C, held=("hang", "call"))

    def test_on_and_kin_fall_where_they_were_handled(self):
        house = parted((("send", "kin", 0), ("send", "on", 0), ("send", "call", 0)), (
            ("handle", "on", (0, ())), ("handle", "kin", (0, ())), ("mask", ("on", "call", "kin")), ("exec", "b"),
        ), b=(("pause",),))
        run(house, C, C, C, P, P, P)
        self.has(house, C, held=("on", "call", "kin"))
        self.takes(house, C, [("exec", C, "b"), ("fell", C, "on"), ("fell", C, "kin")], {C: {
            "title": "b", "row": 0, "changed": True, "handlers": (), "held": ("call",),
        }})

    def test_at_the_first_one_all_fall_that_were_handled(self):
        loose = SIGNALS[2:]
        for stop in ("rest", "reads"):
            signals = tuple(signal for signal in loose if signal not in ("on", "rest", "reads") or signal == stop)
            house = house_of(
                *[("handle", signal, (0, ())) for signal in loose], ("mask", loose),
                *[("send", signal, "self") for signal in signals], ("exec", "b"), b=(("pause",),),
            )
            run(house, *[P] * (len(loose) + 1 + len(signals)))
            self.has(house, P, held=signals)
            self.takes(house, P, [("exec", P, "b"), *[("fell", P, signal) for signal in signals]], {P: {
                "title": "b", "row": 0, "changed": True, "handlers": (), "held": (),
            }})

    def test_last_is_0_behind_it(self):
        house = house_of(("return",), ("exec", "b"), b=(("pause",),))
        run(house, P, P)
        self.has(house, P, last=0)


if __name__ == "__main__":
    unittest.main()
