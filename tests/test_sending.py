"""Signals: what sending does, whom send reaches, and what delivering does by itself."""

import unittest

from scenes import SIGNALS, Case, Node, grown, house_of, parted, run

P, C, D = (), (0,), (1,)
CC, CD = (0, 0), (0, 1)
LOOSE = SIGNALS[2:]
STOPS = ("halt", "rest", "reads")
ALL = ("mask", LOOSE)


def handled(signals, how=(0, ())):
    return tuple(("handle", signal, how) for signal in signals)


def sent_to(child_rows, *signals):
    """A house whose child has done these rows, and whose first one is about to send it these signals."""
    house = parted([("send", signal, 0) for signal in signals], child_rows)
    run(house, *[C] * len(child_rows))
    return house


class ToOneThatLives(Case):
    def sent(self, house, signal, events, changes):
        row = self.thing(house, P, "row")
        first = {"row": row + 1} if self.thing(house, P, "last") == 0 else {"row": row + 1, "last": 0}
        self.takes(house, P, [("sent", P, signal), *events], {P: first, **changes})

    def test_plain(self):
        for signal in SIGNALS:
            house = sent_to((), signal, signal)
            if signal in ("on", "kin"):
                self.sent(house, signal, [("fell", C, signal)], {})
                self.sent(house, signal, [("fell", C, signal)], {})
            else:
                self.sent(house, signal, [("held", C, signal)], {C: {"held": (signal,)}})
                self.sent(house, signal, [("merged", C, signal)], {})

    def test_masked(self):
        for signal in LOOSE:
            house = sent_to((ALL,), signal, signal)
            if signal in ("on", "kin"):
                self.sent(house, signal, [("fell", C, signal)], {})
            else:
                self.sent(house, signal, [("held", C, signal)], {C: {"held": (signal,)}})
                self.sent(house, signal, [("merged", C, signal)], {})

    def test_ignored(self):
        for signal in LOOSE:
            house = sent_to((("handle", signal, "ignore"),), signal, signal)
            self.sent(house, signal, [("fell", C, signal)], {})
            self.sent(house, signal, [("fell", C, signal)], {})

    def test_ignored_and_masked(self):
        for signal in LOOSE:
            house = sent_to((ALL, ("handle", signal, "ignore")), signal)
            self.sent(house, signal, [("fell", C, signal)], {})

    def test_another_one_ignored(self):
        house = sent_to((("handle", "quit", "ignore"), ("handle", "hang", "ignore")), "call", "quit", "hang")
        self.sent(house, "call", [("held", C, "call")], {C: {"held": ("call",)}})
        self.sent(house, "quit", [("fell", C, "quit")], {})
        self.sent(house, "hang", [("fell", C, "hang")], {})

    def test_handled(self):
        for signal in LOOSE:
            house = sent_to(handled((signal,)), signal, signal)
            self.sent(house, signal, [("held", C, signal)], {C: {"held": (signal,)}})
            self.sent(house, signal, [("merged", C, signal)], {})

    def test_those_held_rise_as_in_signals(self):
        house = sent_to(handled(("kin",)), "reads", "kin", "quit", "hang", "kill", "call", "halt", "rest")
        run(house, *[P] * 8)
        self.has(house, C, held=("kill", "halt", "hang", "quit", "call", "kin", "rest", "reads"))

    def test_to_one_that_is_stopped(self):
        for signal in SIGNALS:
            if signal in ("on", "kin"):
                continue
            house = sent_to((), "halt", signal, signal)
            run(house, P, C)
            self.sent(house, signal, [("held", C, signal)], {C: {"held": (signal,)}})
            self.sent(house, signal, [("merged", C, signal)], {})
        house = sent_to((), "halt", "kin")
        run(house, P, C)
        self.sent(house, "kin", [("fell", C, "kin")], {})

    def test_to_one_that_ended(self):
        for signal in SIGNALS:
            for rows in ((), handled(LOOSE), handled(LOOSE, "ignore")):
                house = parted((("send", signal, 0), ("send", signal, 0)), (*rows, ("end", 0)))
                run(house, *[C] * (len(rows) + 1))
                self.sent(house, signal, [("fell", C, signal)], {})
                self.sent(house, signal, [("fell", C, signal)], {})


class ToTheFirstOne(Case):
    def test_plain(self):
        for signal in SIGNALS:
            house = house_of(("send", signal, "self"), ("pause",))
            self.takes(house, P, [("sent", P, signal), ("fell", P, signal)], {P: {"row": 1}})
            self.idles(house, P, "pauses")

    def test_plain_and_masked(self):
        for signal in LOOSE:
            house = house_of(ALL, ("send", signal, "self"))
            run(house, P)
            self.takes(house, P, [("sent", P, signal), ("fell", P, signal)], {P: {"row": 2}})

    def test_ignored(self):
        for signal in LOOSE:
            house = house_of(("handle", signal, "ignore"), ("send", signal, "self"))
            run(house, P)
            self.takes(house, P, [("sent", P, signal), ("fell", P, signal)], {P: {"row": 2}})

    def test_handled(self):
        for signal in LOOSE:
            house = house_of(("handle", signal, (0, ())), ALL, ("send", signal, "self"), ("send", signal, "self"))
            run(house, P, P)
            self.takes(house, P, [("sent", P, signal), ("held", P, signal)], {P: {"row": 3, "held": (signal,)}})
            self.takes(house, P, [("sent", P, signal), ("merged", P, signal)], {P: {"row": 4}})

    def test_by_a_child(self):
        for signal in SIGNALS:
            house = parted((), (("send", signal, "parent"),))
            self.takes(house, C, [("sent", C, signal), ("fell", P, signal)], {C: {"row": 4}})

    def test_one_handled_does_not_save_another(self):
        house = house_of(("handle", "call", (0, ())), ("handle", "rest", (0, ())), ("send", "quit", "self"),
                         ("send", "reads", "self"))
        run(house, P, P)
        self.assertEqual(run(house, P, P), (
            ("sent", P, "quit"), ("fell", P, "quit"), ("sent", P, "reads"), ("fell", P, "reads"),
        ))


class OnAndStops(Case):
    def test_on_looses_the_stops(self):
        for signals in (("halt",), ("rest",), ("reads",), ("reads", "halt", "rest"), ("rest", "call", "reads")):
            house = sent_to((), *signals, "on")
            run(house, *[P] * len(signals))
            rising = [signal for signal in SIGNALS if signal in signals]
            loose = [("loosed", C, signal) for signal in rising if signal in STOPS]
            kept = tuple(signal for signal in rising if signal not in STOPS)
            self.takes(house, P, [("sent", P, "on"), *loose, ("fell", C, "on")],
                       {P: {"row": len(signals) + 3}, C: {"held": kept}})

    def test_on_looses_stops_that_are_masked_and_handled(self):
        house = sent_to((ALL, *handled(("rest", "on"))), "rest", "reads", "on")
        run(house, P, P)
        self.takes(house, P, [("sent", P, "on"), ("loosed", C, "rest"), ("loosed", C, "reads"), ("held", C, "on")],
                   {P: {"row": 5}, C: {"held": ("on",)}})

    def test_on_looses_stops_where_it_is_ignored(self):
        house = sent_to((("handle", "on", "ignore"),), "rest", "on")
        run(house, P)
        self.takes(house, P, [("sent", P, "on"), ("loosed", C, "rest"), ("fell", C, "on")],
                   {P: {"row": 4}, C: {"held": ()}})

    def test_each_stop_looses_on(self):
        for stop in STOPS:
            house = sent_to((ALL, *handled(("on",))), "on", stop)
            run(house, P)
            self.takes(house, P, [("sent", P, stop), ("loosed", C, "on"), ("held", C, stop)],
                       {P: {"row": 4}, C: {"held": (stop,)}})

    def test_a_stop_that_is_ignored_looses_on(self):
        for stop in ("rest", "reads"):
            house = sent_to((ALL, ("handle", stop, "ignore"), *handled(("on",))), "on", stop)
            run(house, P)
            self.takes(house, P, [("sent", P, stop), ("loosed", C, "on"), ("fell", C, stop)],
                       {P: {"row": 4}, C: {"held": ()}})

    def test_what_ends_looses_nothing(self):
        house = sent_to((ALL, *handled(("on", "kin"))), "on", "hang", "quit", "call", "kin", "kill")
        run(house, *[P] * 6)
        self.has(house, C, held=("kill", "on", "hang", "quit", "call", "kin"))
        house = sent_to((), "halt", "hang", "kill", "kin")
        run(house, *[P] * 4)
        self.has(house, C, held=("kill", "halt", "hang"))

    def test_one_that_is_stopped_runs_anew(self):
        for stop in STOPS:
            for rows in ((), (("mask", ("on",)),), (("handle", "on", "ignore"),), (("handle", "call", (0, ())),)):
                house = sent_to(rows, stop, "on")
                run(house, P, C)
                self.has(house, C, how="stopped", news="stopped")
                self.takes(house, P, [("sent", P, "on"), ("on", C), ("fell", P, "kin")],
                           {P: {"row": 4}, C: {"how": "runs", "news": "on"}})

    def test_handled_it_is_held_too(self):
        house = sent_to(handled(("on",)), "halt", "on", "on")
        run(house, P, C)
        self.takes(house, P, [("sent", P, "on"), ("on", C), ("fell", P, "kin"), ("held", C, "on")],
                   {P: {"row": 4}, C: {"how": "runs", "news": "on", "held": ("on",)}})
        self.takes(house, P, [("sent", P, "on"), ("merged", C, "on")], {P: {"row": 5}})

    def test_the_order_of_all_that_on_tells(self):
        house = parted((("handle", "kin", (0, ())), ("mask", ("kin",)), ("send", "halt", 0), ("send", "reads", 0),
                        ("send", "halt", 0), ("send", "on", 0)), handled(("on",)))
        run(house, C, P, P, P, C)
        self.has(house, P, held=("kin",))
        run(house, P, P)
        self.takes(house, P, [
            ("sent", P, "on"), ("loosed", C, "halt"), ("loosed", C, "reads"), ("on", C), ("merged", P, "kin"),
            ("held", C, "on"),
        ], {P: {"row": 8}, C: {"how": "runs", "news": "on", "held": ("on",)}})

    def test_what_else_it_holds_stays_held(self):
        house = sent_to((), "halt", "hang", "on")
        run(house, P, C, P, P)
        self.has(house, C, how="runs", held=("hang",))
        self.assertEqual(run(house, C)[:2], (("struck", C, "hang"), ("ended", C, "hang")))

    def test_the_first_one_s_stops(self):
        house = house_of(*handled(("rest", "on")), ALL, ("send", "rest", "self"), ("send", "on", "self"),
                         ("send", "halt", "self"), ("send", "reads", "self"), ("send", "rest", "self"),
                         ("handle", "on", "plain"), ("send", "on", "self"))
        run(house, P, P, P)
        self.assertEqual(run(house, *[P] * 7), (
            ("sent", P, "rest"), ("held", P, "rest"),
            ("sent", P, "on"), ("loosed", P, "rest"), ("held", P, "on"),
            # These fall ahead of all else, so that on is not loosed by them.
            ("sent", P, "halt"), ("fell", P, "halt"),
            ("sent", P, "reads"), ("fell", P, "reads"),
            ("sent", P, "rest"), ("loosed", P, "on"), ("held", P, "rest"),
            ("handle", P, "on"),
            ("sent", P, "on"), ("loosed", P, "rest"), ("fell", P, "on"),
        ))

    def test_an_ignored_stop_at_the_first_one_looses_on(self):
        house = house_of(*handled(("on",)), ALL, ("handle", "rest", "ignore"), ("send", "on", "self"),
                         ("send", "rest", "self"))
        run(house, *[P] * 4)
        self.takes(house, P, [("sent", P, "rest"), ("loosed", P, "on"), ("fell", P, "rest")],
                   {P: {"row": 5, "held": ()}})


class Send(Case):
    def test_to_oneself(self):
        house = parted((), (("return",), ("send", "call", "self")))
        run(house, C)
        self.takes(house, C, [("sent", C, "call"), ("held", C, "call")], {C: {"row": 5, "last": 0, "held": ("call",)}})
        self.takes(house, C, [("struck", C, "call"), ("ended", C, "call"), ("fell", P, "kin")],
                   {C: {"how": "ended", "word": "call", "held": ()}})

    def test_to_the_parent(self):
        house = grown(Node((), Node((), Node((("send", "quit", "parent"),)))))
        self.takes(house, CC, [("sent", CC, "quit"), ("held", C, "quit")], {CC: {"row": 7}, C: {"held": ("quit",)}})

    def test_to_the_parent_that_it_has_then(self):
        house = grown(Node((("handle", "quit", (0, ())),), Node((("end", 0),), Node((("send", "quit", "parent"),)))))
        run(house, P, C)
        self.takes(house, CC, [("sent", CC, "quit"), ("held", P, "quit")], {CC: {"row": 9}, P: {"held": ("quit",)}})

    def test_to_the_parent_of_the_first_one(self):
        for signal in SIGNALS:
            house = house_of(("send", signal, "parent"), ("pause",))
            self.lacks(house, P)

    def test_to_a_child(self):
        house = grown(Node((("send", "call", 1), ("send", "call", 0)), Node(()), Node(())))
        self.takes(house, P, [("sent", P, "call"), ("held", D, "call")],
                   {P: {"row": 5, "last": 0}, D: {"held": ("call",)}})
        self.takes(house, P, [("sent", P, "call"), ("held", C, "call")], {P: {"row": 6}, C: {"held": ("call",)}})

    def test_to_a_child_that_is_not_there(self):
        house = parted((("send", "kill", 1), ("send", "kill", 99), ("wait", 0, False), ("send", "kill", 0)),
                       (("send", "on", 0), ("end", 0)))
        self.lacks(house, P)
        self.lacks(house, P)
        self.lacks(house, C)
        run(house, C, P)
        self.lacks(house, P)

    def test_to_a_child_in_another_session(self):
        house = parted((("send", "call", 0),), (("session",),))
        run(house, C)
        self.takes(house, P, [("sent", P, "call"), ("held", C, "call")], {P: {"row": 3, "last": 0}, C: {"held": ("call",)}})

    def test_a_child_s_child_and_one_taken_up_are_not_meant(self):
        house = grown(Node((("wait", 0, False), ("send", "call", 0)), Node((("end", 0),), Node(()))))
        run(house, C, P)
        self.has(house, CC, parent=P)
        self.lacks(house, P)

    def test_to_the_group_rising(self):
        house = grown(Node((("group", 1, "new"), ("send", "call", "group")), Node(
            (("send", "hang", "group"),), Node(()), Node((("end", 0),)),
        ), Node(()), *[Node(()) for _ in range(9)]))
        run(house, P, CD)
        self.takes(house, C, [
            ("sent", C, "hang"), ("fell", P, "hang"), ("held", C, "hang"), ("held", CC, "hang"),
            *[("held", (k,), "hang") for k in range(2, 11)],
        ], {
            C: {"row": 30, "last": 0, "held": ("hang",)}, CC: {"held": ("hang",)},
            **{(k,): {"held": ("hang",)} for k in range(2, 11)},
        })
        self.assertEqual(run(house, P)[:4], (
            ("sent", P, "call"), ("fell", P, "call"), ("held", C, "call"), ("held", CC, "call"),
        ))
        self.has(house, D, held=())
        self.has(house, CD, held=(), how="ended")

    def test_to_the_group_rising_whoever_came_first(self):
        house = house_of(("fork",), ("fork",), ("fork",), ("send", "call", "group"))
        run(house, P, P, C)
        # CC came behind D, and goes ahead of it.
        self.assertEqual(house.names(), (P, C, CC, D))
        run(house, P)
        self.assertEqual(run(house, P), (
            ("sent", P, "call"), ("fell", P, "call"), ("held", C, "call"), ("held", CC, "call"), ("held", D, "call"),
            ("held", (2,), "call"),
        ))

    def test_to_the_group_of_one_alone(self):
        house = house_of(("send", "on", "group"), ("session",))
        self.assertEqual(run(house, P), (("sent", P, "on"), ("fell", P, "on")))

    def test_to_a_group_with_one_that_is_stopped(self):
        house = grown(Node((("send", "halt", 0), ("send", "on", "group")), Node(()), Node(())))
        run(house, P, C)
        self.assertEqual(run(house, P), (
            ("sent", P, "on"), ("fell", P, "on"), ("on", C), ("fell", P, "kin"), ("fell", D, "on"),
        ))


class Struck(Case):
    def test_each_stop(self):
        for stop in STOPS:
            house = parted((("send", stop, 0), ("handle", "kin", (0, ()))), (("return",), ("say", 1)))
            run(house, C, P)
            self.takes(house, C, [("struck", C, stop), ("fell", P, "kin")],
                       {C: {"how": "stopped", "news": "stopped", "held": ()}})
            self.has(house, C, row=6, last=-1)

    def test_the_parent_is_called_by_a_stop(self):
        house = parted((("handle", "kin", (0, ())), ("send", "halt", 0)), ())
        run(house, P, P)
        self.takes(house, C, [("struck", C, "halt"), ("held", P, "kin")],
                   {C: {"how": "stopped", "news": "stopped", "held": ()}, P: {"held": ("kin",)}})

    def test_a_stop_is_not_let_fall_by_the_one_who_ignores_kin(self):
        house = parted((("handle", "kin", "ignore"), ("send", "halt", 0)), ())
        run(house, P, P)
        self.takes(house, C, [("struck", C, "halt"), ("fell", P, "kin")],
                   {C: {"how": "stopped", "news": "stopped", "held": ()}})

    def test_two_stops_one_behind_the_other(self):
        house = sent_to((), "halt", "rest", "on", "hang")
        run(house, P, P, C)
        self.has(house, C, how="stopped", held=("rest",))
        self.idles(house, C, "stopped")
        self.assertEqual(run(house, P), (("sent", P, "on"), ("loosed", C, "rest"), ("on", C), ("fell", P, "kin")))
        self.idles(house, C, "pauses")

    def test_stop_goes_ahead_of_an_end_by_its_place(self):
        house = sent_to((), "call", "halt", "on")
        run(house, P, P)
        self.assertEqual(run(house, C)[0], ("struck", C, "halt"))
        self.has(house, C, held=("call",))
        house = sent_to((), "rest", "call")
        run(house, P, P)
        self.assertEqual(run(house, C)[:2], (("struck", C, "call"), ("ended", C, "call")))


if __name__ == "__main__":
    unittest.main()
