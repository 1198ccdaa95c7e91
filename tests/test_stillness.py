"""Who can't go on and why: why, still, chain."""

import random
import unittest

from anything import anything, frozen
from chances import some_walk
from kinsignals.errors import NoOne
from kinsignals.stillness import chain, still, why
from scenes import THINGS, Case, Node, grown, house_of, parted, picture, run

P, C, D, CC = (), (0,), (1,), (0, 0)
WORDS = ("ended", "stopped", "waits", "pauses", "reads", "rests")


def reason(house, name):
    """The word by the document's rule, from what a house tells of its persons alone."""
    person = dict(zip(THINGS, house.person(name)))
    if person["how"] == "ended":
        return "ended"
    if "kill" in person["held"]:
        return None
    if person["how"] == "stopped":
        return "stopped"
    if set(person["held"]) - set(person["mask"]):
        return None
    rows = dict(house.book)[person["title"]]
    row = rows[person["row"]] if person["row"] < len(rows) else ("end", 0)
    if row[0] == "end":
        return "rests" if name == P else None
    if row[0] == "pause":
        return "pauses"
    if row[0] == "read":
        in_front = house.front(person["session"]) == person["group"]
        return "reads" if in_front and not house.typed(person["session"]) else None
    if row[0] == "wait":
        people = {other: dict(zip(THINGS, house.person(other))) for other in house.names()}
        children = [other for other in people if people[other]["parent"] == name]
        if row[1] is not None:
            children = [child for child in children if child == (*name, row[1])]
        told = [c for c in children if people[c]["how"] == "ended" or row[2] and people[c]["news"]]
        return "waits" if children and not told else None
    return None


class Why(Case):
    def tells(self, house, name, word):
        """The word is told, the house stays, and a step idles by that word or doesn't."""
        seen = picture(house)
        self.assertEqual(why(house, name), word)
        self.assertEqual(picture(house), seen)
        event = house.twin().step(name)[0]
        self.assertEqual(event == ("idle", name, word), word is not None)
        self.assertEqual(event[0] == "idle", word is not None)

    def test_each_row_that_never_idles(self):
        for row in (
            ("fork",), ("exec", "a"), ("exec", "zz"), ("send", "call", "self"), ("send", "call", 3), ("mask", ("call",)),
            ("unmask", ()), ("handle", "call", "plain"), ("return",), ("session",), ("group", "self", "new"),
            ("front", "self"), ("taker",), ("say", 1), ("goto", 0), ("if", 0, 0), ("wait", None, False), ("wait", 3, True),
        ):
            with self.subTest(row=row):
                self.tells(house_of(row), P, None)
                self.tells(parted([("pause",)], [row]), C, None)

    def test_the_first_one(self):
        self.tells(house_of(("end", 5)), P, "rests")
        self.tells(house_of(("pause",)), P, "pauses")
        self.tells(house_of(("read",)), P, "reads")
        self.tells(house_of(("read",), typed=(4,)), P, None)
        house = house_of(("say", 1))
        run(house, P)
        self.tells(house, P, "rests")

    def test_a_child(self):
        self.tells(parted([], [("end", 5)]), C, None)
        self.tells(parted([], [("pause",)]), C, "pauses")
        self.tells(parted([], [("read",)]), C, "reads")
        self.tells(parted([], [("read",)], typed=(4,)), C, None)
        self.tells(parted([], [("fork",), ("if", 1, "b"), ("pause",), "b", ("wait", None, False)]), C, None)

    def test_behind_the_last_row(self):
        house = house_of(("fork",))
        run(house, P)
        self.tells(house, P, "rests")
        self.tells(house, C, None)

    def test_ended(self):
        house = parted([], [("end", 5)])
        run(house, C)
        self.tells(house, C, "ended")

    def test_ended_while_stopped(self):
        house = parted([("send", "halt", 0), ("send", "kill", 0)], [("say", 1)])
        run(house, P, C)
        self.tells(house, C, "stopped")
        run(house, P)
        self.tells(house, C, None)
        run(house, C)
        self.tells(house, C, "ended")

    def test_stopped_with_others_held(self):
        house = parted([("send", "halt", 0), ("send", "call", 0), ("send", "on", 0)], [("pause",)])
        run(house, P)
        self.tells(house, C, None)
        run(house, C, P)
        self.tells(house, C, "stopped")
        run(house, P)
        self.tells(house, C, None)

    def test_held_and_masked(self):
        house = grown(Node([("send", "call", 0), ("send", "hang", 0)], Node([("pause",)], ahead=[("mask", ("call",))])))
        run(house, P)
        self.has(house, C, held=("call",))
        self.tells(house, C, "pauses")
        run(house, P)
        self.tells(house, C, None)

    def test_held_by_the_first_one(self):
        house = house_of(("handle", "call", (4, ())), ("send", "call", "self"), ("pause",), ("end", 0), ("return",))
        run(house, P, P)
        self.tells(house, P, None)
        run(house, P, P)
        self.tells(house, P, "rests")

    def test_wait(self):
        for which in (None, 0):
            for stops in (False, True):
                with self.subTest(which=which, stops=stops):
                    house = parted([("wait", which, stops)], [("end", 1)])
                    self.tells(house, P, "waits")
                    run(house, C)
                    self.tells(house, P, None)

    def test_wait_for_another_one(self):
        family = Node([("wait", 1, False), ("wait", 1, False)], Node([("end", 1)]), Node([("end", 2)]))
        house = grown(family)
        run(house, C)
        self.tells(house, P, "waits")
        run(house, D)
        self.tells(house, P, None)
        # Behind it there is no such child any more, so that the row lacks.
        run(house, P)
        self.tells(house, P, None)

    def test_wait_of_stops(self):
        for stops, word in ((False, "waits"), (True, None)):
            with self.subTest(stops=stops):
                house = parted([("send", "halt", 0), ("wait", 0, stops)], [("pause",)])
                run(house, P)
                self.tells(house, P, "waits")
                run(house, C)
                self.tells(house, P, word)

    def test_wait_of_one_that_runs_anew(self):
        for stops, word in ((False, "waits"), (True, None)):
            with self.subTest(stops=stops):
                house = parted([("send", "halt", 0), ("send", "on", 0), ("wait", None, stops)], [("pause",)])
                run(house, P, C, P)
                self.tells(house, P, word)

    def test_wait_of_one_that_has_another_parent(self):
        # (0, 0) is taken up by the first one, whose own child of number 0 is (0,).
        house = grown(Node([("wait", 0, False), ("wait", None, False)], Node([("end", 1)], Node([("pause",)]))))
        run(house, C)
        self.tells(house, P, None)
        run(house, P)
        self.tells(house, P, "waits")

    def test_read_out_of_front(self):
        family = Node([], Node([("group", "self", "new"), ("read",), ("read",)]))
        house = grown(family, typed=(1,))
        run(house, C)
        self.tells(house, C, None)
        run(house, C)
        # reads is held now, and stops it.
        self.tells(house, C, None)
        run(house, C)
        self.tells(house, C, "stopped")

    def test_read_of_an_orphan(self):
        house = grown(Node([], Node([("session",), ("read",), ("read",)])))
        run(house, C)
        self.tells(house, C, None)
        self.assertEqual(run(house, C), (("lack", C),))

    def test_a_number_put(self):
        house = parted([], [("read",)])
        self.tells(house, C, "reads")
        run(house, ("put", P, 7))
        self.tells(house, C, None)
        run(house, C)
        self.tells(house, C, "pauses")

    def test_by_many_scripts(self):
        heard = set()
        for seed in range(150):
            for house, entry in some_walk(random.Random(f"why {seed}"), 60):
                for name in house.names():
                    word = why(house, name)
                    self.assertEqual(word, reason(house, name))
                    events = house.twin().step(name)
                    self.assertEqual(word, events[0][2] if events[0][0] == "idle" else None)
                    heard.add((word, name == P))
        self.assertEqual(heard, {
            *((word, False) for word in (*WORDS, None) if word != "rests"),
            *((word, True) for word in (None, "waits", "pauses", "reads", "rests")),
        })

    def test_refused_of_anything(self):
        house = parted([("pause",)], [("pause",)])
        seen = picture(house)
        for thing in [*anything(), (1,), (0, 0), (-1,), (False,), [0], [], "/", "0", ("put", P, 1)]:
            if thing.__class__ is tuple and thing == ():
                continue
            if thing == (0,) and thing.__class__ is tuple and thing[0] is not False:
                continue
            with self.subTest(thing=thing):
                for asked in (why, chain):
                    ahead = frozen(thing)
                    with self.assertRaises(NoOne) as caught:
                        asked(house, thing)
                    self.assertIs(caught.exception.name, thing)
                    self.assertEqual(frozen(thing), ahead)
                self.assertEqual(picture(house), seen)

    def test_one_that_is_there_no_more(self):
        house = parted([("wait", 0, False)], [("end", 1)])
        run(house, C, P)
        self.assertRaises(NoOne, why, house, C)
        self.assertRaises(NoOne, chain, house, C)


class Still(Case):
    def tells(self, house, words):
        seen = picture(house)
        told = still(house)
        self.assertEqual(told, words)
        self.assertEqual(picture(house), seen)
        if told is not None:
            self.assertIs(told.__class__, tuple)
            self.assertTrue(all(pair.__class__ is tuple for pair in told))

    def test_of_one(self):
        self.tells(house_of(("say", 1)), None)
        self.tells(house_of(("pause",)), ((P, "pauses"),))
        self.tells(house_of(("end", 1)), ((P, "rests"),))

    def test_one_that_can_go_is_enough(self):
        family = Node([("pause",)], Node([("pause",)]), Node([("say", 1), ("pause",)]))
        house = grown(family)
        self.tells(house, None)
        run(house, D)
        self.tells(house, ((P, "pauses"), (C, "pauses"), (D, "pauses")))

    def test_all_with_their_words_rising(self):
        family = Node(
            [("send", "halt", 1), ("wait", 3, False)],
            Node([("wait", None, False)], Node([("pause",)])), Node([("pause",)]), Node([("end", 1)]), Node([("read",)]),
        )
        house = grown(family)
        run(house, P, D, (2,))
        self.tells(house, (
            (P, "waits"), (C, "waits"), (CC, "pauses"), (D, "stopped"), ((2,), "ended"), ((3,), "reads"),
        ))

    def test_a_row_that_leads_to_itself_goes(self):
        self.tells(house_of(("goto", 0)), None)

    def test_a_number_put_wakes(self):
        house = parted([("pause",)], [("read",), ("pause",)])
        self.tells(house, ((P, "pauses"), (C, "reads")))
        run(house, ("put", P, 5))
        self.tells(house, None)
        run(house, C)
        self.tells(house, ((P, "pauses"), (C, "pauses")))

    def test_a_key_wakes(self):
        house = parted([("pause",)], [("pause",)])
        self.tells(house, ((P, "pauses"), (C, "pauses")))
        run(house, ("key", P, "call"))
        self.tells(house, None)
        run(house, C)
        self.tells(house, ((P, "pauses"), (C, "ended")))
        run(house, ("key", P, "call"))
        self.tells(house, ((P, "pauses"), (C, "ended")))

    def test_by_many_scripts(self):
        seen_still = 0
        for seed in range(150):
            for house, entry in some_walk(random.Random(f"still {seed}"), 60):
                words = tuple((name, reason(house, name)) for name in house.names())
                goes = any(word is None for name, word in words)
                self.assertEqual(still(house), None if goes else words)
                seen_still += not goes
                if not goes:
                    behind = house.twin()
                    run(behind, *behind.names())
                    self.assertEqual(behind, house)
        self.assertGreater(seen_still, 50)


class Chain(Case):
    def tells(self, house, name, names):
        seen = picture(house)
        told = chain(house, name)
        self.assertIs(told.__class__, tuple)
        self.assertEqual(told, names)
        self.assertEqual(picture(house), seen)

    def test_of_one_that_does_not_wait(self):
        house = parted([("pause",)], [("say", 1), ("end", 2)])
        self.tells(house, P, (P,))
        self.tells(house, C, (C,))
        run(house, C, C)
        self.tells(house, C, (C,))

    def test_of_one_that_waits_for_any(self):
        house = grown(Node([("wait", None, False)], Node([("pause",)]), Node([("pause",)])))
        self.tells(house, P, (P, C))
        self.tells(house, D, (D,))

    def test_of_one_that_waits_for_its_kth(self):
        house = grown(Node([("wait", 1, True)], Node([("pause",)]), Node([("pause",)])))
        self.tells(house, P, (P, D))

    def test_something_to_tell(self):
        house = grown(Node([("wait", None, False)], Node([("pause",)]), Node([("end", 1)])))
        self.tells(house, P, (P, C))
        run(house, D)
        self.tells(house, P, (P,))

    def test_no_child(self):
        self.tells(house_of(("wait", None, False)), P, (P,))

    def test_children_that_were_told(self):
        house = grown(Node([("wait", 0, False), ("wait", None, False)], Node([("end", 1)]), Node([("pause",)])))
        run(house, C, P)
        self.tells(house, P, (P, D))

    def test_children_that_ended_elsewhere(self):
        house = grown(Node([("wait", 1, False)], Node([("end", 1)]), Node([("pause",)])))
        run(house, C)
        self.tells(house, P, (P, D))

    def test_children_that_were_taken_up(self):
        family = Node([("wait", 0, False), ("wait", None, False)], Node([("end", 1)], Node([("wait", 0, False)], Node([]))))
        house = grown(family)
        self.tells(house, P, (P, C))
        run(house, C, P)
        self.tells(house, P, (P, CC, (0, 0, 0)))

    def test_several_generations(self):
        family = Node(
            [("wait", None, False)],
            Node([("wait", None, True)], Node([("wait", 1, False)], Node([("pause",)]), Node([("say", 1)]))),
            Node([("pause",)]),
        )
        house = grown(family)
        self.tells(house, P, (P, C, CC, (0, 0, 1)))
        self.tells(house, C, (C, CC, (0, 0, 1)))
        self.tells(house, CC, (CC, (0, 0, 1)))
        self.tells(house, (0, 0, 0), ((0, 0, 0),))

    def test_one_that_waits_but_is_stopped(self):
        family = Node([("send", "halt", 0), ("wait", None, False)], Node([("wait", None, False)], Node([("pause",)])))
        house = grown(family)
        run(house, P)
        # The child has a signal to be delivered, so that it doesn't wait.
        self.tells(house, P, (P, C))
        run(house, C)
        self.tells(house, P, (P, C))
        self.tells(house, C, (C,))

    def test_by_many_scripts(self):
        lengths = set()
        for seed in range(150):
            for house, entry in some_walk(random.Random(f"chain {seed}"), 60):
                for name in house.names():
                    names = chain(house, name)
                    self.assertEqual(names[0], name)
                    for one, other in zip(names, names[1:]):
                        self.assertEqual(reason(house, one), "waits")
                        person = dict(zip(THINGS, house.person(one)))
                        which = dict(house.book)[person["title"]][person["row"]][1]
                        children = [
                            child for child in house.names()
                            if house.person(child)[0] == one and which in (None, child[-1] if child[:-1] == one else None)
                            and house.person(child)[3] != "ended"
                        ]
                        self.assertEqual(other, min(children))
                    self.assertNotEqual(reason(house, names[-1]), "waits")
                    lengths.add(len(names))
        self.assertLessEqual({1, 2, 3}, lengths)


if __name__ == "__main__":
    unittest.main()
