"""The house rebuilt from its tale: rebuilt, counted."""

import random
import unittest

from chances import MOST_PEOPLE, some_entry, some_house
from kinsignals.rebuilding import counted, rebuilt
from kinsignals.scripts import walk
from scenes import Case, Node, grown, house_of, parted, picture

P, C, D, CC = (), (0,), (1,), (0, 0)


def there(house):
    """What is to be rebuilt, from what a house tells of its persons."""
    persons = [(name, house.person(name)) for name in house.names()]
    return tuple((name, *person[:4], person[9]) for name, person in persons)


class Rebuilt(Case):
    def rebuilds(self, house, *script):
        """Behind each entry the tale alone tells what is there; what is handed in stays. The events are told."""
        start, told = house.twin(), []
        seen = picture(start)
        for entry in script:
            told.append(house.step(entry))
            events = tuple(told)
            ahead = repr(events)
            rows = rebuilt(start, events)
            self.assertIs(rows.__class__, tuple)
            self.assertTrue(all(row.__class__ is tuple for row in rows))
            self.assertEqual(rows, there(house))
            self.assertEqual(repr(events), ahead)
            self.assertEqual(picture(start), seen)
        return [event for events in told for event in events]

    def test_no_events(self):
        house = house_of(("pause",))
        self.assertEqual(rebuilt(house, ()), ((P, None, P, P, "runs", ()),))
        house = parted([("send", "halt", 0), ("send", "call", 0)], [])
        walk(house, (P, C, P))
        self.assertEqual(rebuilt(house, ()), (
            (P, None, P, P, "runs", ()),
            (C, P, P, P, "stopped", ("call",)),
        ))
        self.assertEqual(rebuilt(house, ((), ())), there(house))

    def test_written_out_in_full(self):
        house = house_of(("pause",))
        events = (
            (("fork", P, C),),
            (("fork", C, CC),),
            (("group", CC, CC),),
            (("sent", P, "call"), ("held", CC, "call"), ("merged", CC, "call"), ("held", CC, "halt")),
            (("struck", CC, "halt"), ("fell", C, "kin")),
            (("ended", C, 3), ("taken", CC, P), ("fell", P, "kin")),
        )
        self.assertEqual(rebuilt(house, events), (
            (P, None, P, P, "runs", ()),
            (C, P, P, P, "ended", ()),
            (CC, P, CC, P, "stopped", ("call",)),
        ))

    def test_forked(self):
        house = parted([("fork",)], [("group", "self", "new"), ("fork",)])
        told = self.rebuilds(house, P, C, C)
        self.assertEqual([event[0] for event in told], ["fork", "group", "fork"])
        self.has(house, CC, group=C, parent=C)

    def test_forked_by_one_that_holds(self):
        family = Node([("send", "call", 0)], Node([("fork",)], ahead=[("mask", ("call",))]))
        house = grown(family)
        self.rebuilds(house, P, C)
        self.has(house, C, held=("call",))
        self.has(house, CC, held=())

    def test_ended_taken_up_and_lying(self):
        family = Node([("wait", None, False)] * 3, Node([("end", 1)], Node([("end", 2)]), Node([])))
        house = grown(family)
        told = self.rebuilds(house, CC, C, P, P)
        self.assertIn(("taken", CC, P), told)
        self.assertIn(("taken", (0, 1), P), told)
        self.assertEqual(told[-2:], [("told", P, C, 1), ("told", P, CC, 2)])

    def test_taken_up_by_a_taker(self):
        family = Node([], Node([], Node([("end", 1)], Node([])), ahead=[("taker",)]))
        told = self.rebuilds(grown(family), CC)
        self.assertIn(("taken", (0, 0, 0), C), told)

    def test_told_of_an_end_by_a_signal(self):
        house = parted([("send", "call", 0), ("wait", 0, True)], [])
        told = self.rebuilds(house, P, C, P)
        self.assertIn(("told", P, C, "call"), told)
        self.assertEqual(len(house), 1)

    def test_told_of_news(self):
        rows = [("send", "halt", 0), ("wait", 0, True), ("send", "on", 0), ("wait", 0, True)]
        house = parted(rows, [])
        told = self.rebuilds(house, P, C, P, P, P)
        self.assertIn(("told", P, C, "stopped"), told)
        self.assertIn(("told", P, C, "on"), told)
        self.assertEqual(len(house), 2)

    def test_let(self):
        # CC ends by its parent's side and lies there, until that one ends, too.
        house = grown(Node([("handle", "kin", "ignore")], Node([("end", 1)], Node([("end", 2)]))))
        told = self.rebuilds(house, CC, P, C)
        self.assertEqual([event for event in told if event[0] == "let"], [("let", CC), ("let", C)])
        self.assertEqual(house.names(), (P,))

    def test_groups_and_sessions(self):
        house = grown(Node(
            [("group", 0, "new"), ("group", 0, "mine"), ("group", 1, "new")],
            Node([("group", "self", "new"), ("session",)]), Node([("group", "self", "mine")]), Node([("session",), ("fork",)]),
        ))
        told = self.rebuilds(house, P, P, P, C, D, (2,), (2,), C)
        self.assertIn(("group", C, C), told)
        self.assertIn(("group", C, P), told)
        self.assertIn(("group", D, D), told)
        self.assertIn(("session", (2,)), told)
        self.has(house, (2, 0), group=(2,), session=(2,))

    def test_held_merged_and_fallen_at_sending(self):
        house = grown(Node(
            [("send", "call", 0), ("send", "call", 0), ("send", "kin", 0), ("send", "kill", "self"), ("send", "hang", 0)],
            Node([], ahead=[("mask", ("hang", "call"))]),
        ))
        told = self.rebuilds(house, P, P, P, P, P)
        words = [event for event in told if event[0] != "sent"]
        self.assertEqual(words, [
            ("held", C, "call"), ("merged", C, "call"), ("fell", C, "kin"), ("fell", P, "kill"), ("held", C, "hang"),
        ])
        self.has(house, C, held=("hang", "call"))

    def test_fallen_behind_handle(self):
        house = grown(Node(
            [("send", "call", 0), ("send", "hang", 0)],
            Node([("handle", "call", "ignore")], ahead=[("mask", ("hang", "call"))]),
        ))
        told = self.rebuilds(house, P, P, C)
        self.assertEqual(told[-2:], [("handle", C, "call"), ("fell", C, "call")])
        self.has(house, C, held=("hang",))

    def test_fallen_behind_exec(self):
        house = house_of(
            ("handle", "kin", (0, ())), ("handle", "call", (0, ())), ("mask", ("call", "kin")), ("send", "call", "self"),
            ("send", "kin", "self"), ("exec", "b"), b=[("pause",)],
        )
        told = self.rebuilds(house, *[P] * 6)
        self.assertEqual(told[-3:], [("exec", P, "b"), ("fell", P, "call"), ("fell", P, "kin")])
        self.has(house, P, held=())

    def test_loosed_both_ways(self):
        house = grown(Node(
            [("send", "rest", 0), ("send", "halt", 0), ("send", "on", 0), ("send", "rest", 0)],
            Node([], ahead=[("handle", "on", (0, ()))]),
        ))
        told = self.rebuilds(house, P, P, P, P)
        self.assertEqual([event for event in told if event[0] == "loosed"], [
            ("loosed", C, "halt"), ("loosed", C, "rest"), ("loosed", C, "on"),
        ])
        self.has(house, C, held=("rest",))

    def test_begun(self):
        house = grown(Node([("send", "call", 0)], Node([], ahead=[("handle", "call", (0, ()))])))
        told = self.rebuilds(house, P, C)
        self.assertEqual(told[-1], ("begun", C, "call"))
        self.has(house, C, held=(), how="runs")

    def test_struck_and_ended(self):
        house = parted([("send", "hang", 0), ("send", "kill", 0)], [])
        told = self.rebuilds(house, P, P, C)
        self.assertIn(("struck", C, "kill"), told)
        self.has(house, C, held=(), how="ended")

    def test_stopped_and_run_anew(self):
        for signal in ("halt", "rest", "reads"):
            house = parted([("send", signal, 0), ("send", "call", 0), ("send", "on", 0)], [])
            told = self.rebuilds(house, P, C, P, P)
            self.assertIn(("struck", C, signal), told)
            self.assertIn(("on", C), told)
            self.has(house, C, how="runs", held=("call",))

    def test_run_anew_with_a_handler(self):
        house = grown(Node([("send", "halt", 0), ("send", "on", 0)], Node([], ahead=[("handle", "on", (0, ()))])))
        self.rebuilds(house, P, C, P)
        self.has(house, C, how="runs", held=("on",))

    def test_a_leader_s_end(self):
        family = Node([], Node([("session",), ("fork",), ("if", 0, "in"), ("front", "self"), ("end", 1), "in", ("pause",)]))
        house = grown(family)
        told = self.rebuilds(house, C, C, CC, C, C, C, CC)
        self.assertIn(("bare", C), told)
        self.assertIn(("held", CC, "hang"), told)
        self.has(house, CC, parent=P, how="ended")

    def test_puts_and_keys(self):
        house = parted([("read",)], [])
        self.rebuilds(house, ("put", P, 4), P, ("key", P, "halt"), C, ("key", P, "on"), ("key", P, "quit"), C)

    def test_two_walks(self):
        house = parted([("send", "halt", 0), ("send", "on", 0), ("wait", 0, False)], [("fork",), ("end", 1)])
        start = house.twin()
        first = walk(house, (P, C, P))
        middle = house.twin()
        second = walk(house, (C, C, C, P))
        self.assertEqual(rebuilt(start, first), there(middle))
        self.assertEqual(rebuilt(middle, second), there(house))
        self.assertEqual(rebuilt(start, first + second), there(house))

    def test_by_many_scripts(self):
        heard = set()
        for seed in range(300):
            chance = random.Random(f"rebuilt {seed}")
            house = some_house(chance)
            start = middle = house.twin()
            told, parted_at = [], chance.randrange(100)
            for at in range(100):
                if len(house) > MOST_PEOPLE:
                    break
                if at == parted_at:
                    middle = house.twin()
                told.append(house.step(some_entry(chance, house)))
                if at % 7 == 0:
                    self.assertEqual(rebuilt(start, tuple(told)), there(house))
            events = tuple(told)
            self.assertEqual(rebuilt(start, events), there(house))
            if middle is not start:
                self.assertEqual(rebuilt(start, events[:parted_at]), there(middle))
                self.assertEqual(rebuilt(middle, events[parted_at:]), there(house))
            words = [event[0] for step_events in events for event in step_events]
            heard |= set(words)
            self.assertEqual(
                counted(events), tuple(words.count(word) for word in ("held", "merged", "fell", "loosed", "begun", "struck")),
            )
        self.assertLessEqual({
            "fork", "ended", "taken", "let", "told", "session", "group", "held", "merged", "fell", "loosed", "begun", "struck",
            "on",
        }, heard)


class Counted(Case):
    def test_none(self):
        self.assertEqual(counted(()), (0, 0, 0, 0, 0, 0))
        self.assertEqual(counted(((), ())), (0, 0, 0, 0, 0, 0))
        self.assertIs(counted(()).__class__, tuple)

    def test_each(self):
        for at, word in enumerate(("held", "merged", "fell", "loosed", "begun", "struck")):
            wanted = [0] * 6
            wanted[at] = 3
            events = (((word, P, "call"), (word, C, "on")), (), ((word, P, "call"),))
            ahead = repr(events)
            self.assertEqual(counted(events), tuple(wanted))
            self.assertEqual(repr(events), ahead)

    def test_others_beside_them(self):
        house = grown(Node(
            [("send", "call", "group"), ("send", "call", 0), ("send", "on", 0), ("send", "rest", 0), ("send", "on", 0)],
            Node([("pause",)], ahead=[("handle", "call", (0, ("call",)))]),
        ))
        events = walk(house, (P, P, C, P, P, P, ("key", P, "halt"), C, ("put", P, 1)))
        # call is held, then merged, then begun; on falls twice; rest is held and loosed; halt is held and struck.
        # The first one lets fall call, halt and the kin that the stop sends.
        self.assertEqual(counted(events), (3, 1, 5, 1, 1, 1))


if __name__ == "__main__":
    unittest.main()
