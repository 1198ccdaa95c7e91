"""Scripts: walk, tale, of_one."""

import unittest

from anything import anything, frozen
from kinsignals.errors import NoEntry, NoOne, NoScript, NoSession
from kinsignals.scripts import of_one, tale, walk
from scenes import Case, Node, grown, house_of, parted, picture, run

P, C, D = (), (0,), (1,)


class Walk(Case):
    def test_none_at_all(self):
        house = house_of(("say", 1))
        seen = picture(house)
        self.assertEqual(walk(house, ()), ())
        self.assertEqual(picture(house), seen)

    def test_each_entry_s_events(self):
        house = house_of(("fork",), ("send", "call", "group"), ("pause",))
        self.assertEqual(walk(house, (P, C, ("put", P, 3), ("key", P, "hang"), P, C)), (
            (("fork", P, C),),
            (("sent", C, "call"), ("fell", P, "call"), ("held", C, "call")),
            (("typed", P, 3),),
            (("keyed", P, "hang"), ("fell", P, "hang"), ("held", C, "hang")),
            (("sent", P, "call"), ("fell", P, "call"), ("merged", C, "call")),
            (("struck", C, "hang"), ("ended", C, "hang"), ("fell", P, "kin")),
        ))
        self.has(house, P, row=2)
        self.has(house, C, how="ended")

    def test_it_tells_tuples(self):
        told = walk(house_of(("fork",)), (P, C))
        self.assertIs(told.__class__, tuple)
        for events in told:
            self.assertIs(events.__class__, tuple)
            self.assertTrue(all(event.__class__ is tuple for event in events))

    def test_the_same_as_steps_one_by_one(self):
        house = grown(Node((("send", "halt", 0), ("wait", None, True)), Node((("say", 1), ("end", 2)))))
        twin = house.twin()
        script = (C, P, C, P, P, ("key", P, "on"), C, P)
        self.assertEqual(walk(house, script), tuple(twin.step(entry) for entry in script))
        self.assertEqual(house, twin)

    def test_no_tuple(self):
        for thing in [*anything(), [P], [], [()], "", {P: 1}]:
            house = house_of(("say", 1), typed=(1,))
            seen, ahead = picture(house), frozen(thing)
            if thing.__class__ is tuple:
                continue
            with self.subTest(thing=thing):
                self.assertRaises(NoScript, walk, house, thing)
                self.assertEqual(picture(house), seen)
                self.assertEqual(frozen(thing), ahead)

    def test_anything_within(self):
        for thing in anything():
            if thing.__class__ is tuple and thing in ((), (0,)):
                continue
            house = house_of(("say", 1), ("say", 2), ("say", 3))
            ahead = frozen(thing)
            with self.subTest(thing=thing):
                self.assertRaises(NoEntry, walk, house, (P, P, thing, P))
                # Those ahead are stepped, those behind are not.
                self.has(house, P, row=2)
                self.assertEqual(frozen(thing), ahead)

    def test_a_truth_in_a_name_within(self):
        house = house_of(("fork",), ("fork",), ("pause",))
        self.assertRaises(NoEntry, walk, house, (P, P, (True,)))
        self.assertEqual(house.names(), (P, C, D))

    def test_one_that_is_not_there(self):
        house = house_of(("fork",), ("say", 1))
        with self.assertRaises(NoOne) as caught:
            walk(house, (P, C, D, P))
        self.assertEqual(caught.exception.name, D)
        self.has(house, C, row=2)
        self.has(house, P, row=1)

    def test_a_session_that_never_was(self):
        house = house_of(("fork",), ("say", 1))
        for entry in (("put", C, 1), ("key", C, "on")):
            with self.assertRaises(NoSession) as caught:
                walk(house, (("put", P, 7), entry))
            self.assertEqual(caught.exception.name, C)
        self.assertEqual(house.typed(P), (7, 7))

    def test_the_first_that_is_refused_tells_how(self):
        for script, kind in (((None, D, ("put", D, 1)), NoEntry), ((D, None, ("put", D, 1)), NoOne),
                             ((("put", D, 1), D, None), NoSession)):
            self.assertRaises(kind, walk, house_of(("say", 1)), script)

    def test_one_comes_and_goes_within_the_script(self):
        house = parted((("wait", 0, False),), (("end", 1),))
        with self.assertRaises(NoOne) as caught:
            walk(house, (C, C, P, C))
        self.assertEqual(caught.exception.name, C)
        self.assertEqual(house.names(), (P,))

    def test_a_long_script(self):
        house = house_of(("say", 1), ("goto", 0))
        told = walk(house, (P,) * 2000)
        self.assertEqual(told, ((("said", P, 1),), (("went", P, 0),)) * 1000)


class Tale(Case):
    def test_one_behind_another(self):
        house = house_of(("fork",), ("send", "call", "group"), ("pause",))
        events = walk(house, (P, C, C))
        self.assertEqual(tale(events), (
            ("fork", P, C), ("sent", C, "call"), ("fell", P, "call"), ("held", C, "call"),
            ("struck", C, "call"), ("ended", C, "call"), ("fell", P, "kin"),
        ))

    def test_of_nothing(self):
        self.assertEqual(tale(()), ())
        self.assertEqual(tale(((), (), ())), ())

    def test_whatever_stands_in_it(self):
        for thing in anything():
            ahead = frozen(thing)
            told = tale(((thing,), (), (("said", P, 1), thing)))
            self.assertIs(told.__class__, tuple)
            self.assertEqual(len(told), 3)
            self.assertIs(told[0], thing)
            self.assertEqual(told[1], ("said", P, 1))
            self.assertIs(told[2], thing)
            self.assertEqual(frozen(thing), ahead)

    def test_an_event_is_not_taken_apart(self):
        self.assertEqual(tale(((((),),),)), (((),),))
        self.assertEqual(tale((((1, 2), (3,)),)), ((1, 2), (3,)))


class OfOne(Case):
    def test_of_a_process(self):
        house = house_of(("fork",), ("send", "call", "group"), ("pause",))
        events = walk(house, (P, C, C, P))
        self.assertEqual(of_one(events, P), (
            ("fork", P, C), ("fell", P, "call"), ("fell", P, "kin"), ("sent", P, "call"), ("fell", P, "call"),
        ))
        self.assertEqual(of_one(events, C), (
            ("sent", C, "call"), ("held", C, "call"), ("struck", C, "call"), ("ended", C, "call"),
        ))
        self.assertEqual(of_one(events, D), ())

    def test_of_a_session(self):
        house = parted((), (("session",), ("front", "self"), ("end", 1)))
        events = walk(house, (C, C, ("put", C, 4), ("key", C, "call"), ("put", P, 5), C))
        self.assertEqual(of_one(events, C), (
            ("session", C), ("front", C, C), ("typed", C, 4), ("keyed", C, "call"), ("held", C, "call"),
            ("struck", C, "call"), ("ended", C, "call"), ("bare", C),
        ))
        self.assertEqual(of_one(events, P), (("typed", P, 5), ("fell", P, "kin")))

    def test_the_second_thing_alone_counts(self):
        house = grown(Node((("wait", None, False),), Node((("end", 3),), Node(()))))
        events = walk(house, (C, P))
        self.assertEqual(of_one(events, C), (("ended", C, 3),))
        self.assertEqual(of_one(events, (0, 0)), (("taken", (0, 0), P),))
        self.assertEqual(of_one(events, P), (("fell", P, "kin"), ("told", P, C, 3)))

    def test_of_nothing(self):
        self.assertEqual(of_one((), P), ())
        self.assertEqual(of_one(((), ()), C), ())

    def test_whatever_stands_in_it(self):
        for thing in anything():
            ahead = frozen(thing)
            for name in (P, C, D):
                told = of_one(((thing, ("x", thing), ("x", name)), (), ((thing, thing, name),)), name)
                whole = thing.__class__ is tuple and thing == name and not any(part is True for part in thing)
                wanted = [("x", name)]
                if whole:
                    wanted = [("x", thing), ("x", name), (thing, thing, name)]
                if name == P and thing in ((0, P), ("a", P)):
                    wanted = [thing, ("x", name)]
                self.assertEqual(list(told), wanted, (thing, name))
            self.assertEqual(frozen(thing), ahead)

    def test_a_truth_is_no_number(self):
        self.assertEqual(of_one(((("said", (True,), 1), ("said", (1,), 1)),), D), (("said", D, 1),))

    def test_a_list_is_no_tuple(self):
        self.assertEqual(of_one(((["said", P, 1], ("said", [], 1)),), P), ())

    def test_all_of_all_names_are_the_tale(self):
        house = grown(Node((("send", "halt", 0), ("wait", None, True)), Node((("say", 1), ("end", 2)))))
        events = walk(house, (C, P, C, P, ("key", P, "on"), C, P))
        parts = [event for name in (P, C) for event in of_one(events, name)]
        self.assertEqual(sorted(map(repr, parts)), sorted(map(repr, tale(events))))

    def test_run_is_the_tale_of_a_walk(self):
        house = house_of(("say", 1), ("say", 2))
        twin = house.twin()
        self.assertEqual(run(house, P, P), tale(walk(twin, (P, P))))


if __name__ == "__main__":
    unittest.main()
