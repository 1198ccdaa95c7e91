"""What entries touch and which of them meet: touched, meet."""

import random
import unittest

from anything import anything, frozen
from chances import some_entry, some_walk
from kinsignals.errors import NoEntry, NoOne, NoSession
from kinsignals.scripts import walk
from kinsignals.touching import meet, touched
from scenes import SIGNALS, Case, Node, grown, house_of, parted, picture, run

P, C, D, E, CC = (), (0,), (1,), (2,), (0, 0)
ALL = ((("all",), "write"),)
STOPS_AND_ON = ("halt", "on", "rest", "reads")
NAMED = {"read": 0, "add": 1, "write": 2}


def cells_of(*parts):
    """A dict of cells out of ("write", cell, cell, ..) parts."""
    return {cell: part[0] for part in parts for cell in part[1:]}


def own(name):
    """What each step of one touches that doesn't write all."""
    mail = [("mail", name, signal) for signal in SIGNALS]
    return cells_of(("read", ("all",)), ("write", ("own", name), *mail))


def mail(name, *signals):
    return cells_of(("write", *[("mail", name, signal) for signal in signals]))


class Touched(Case):
    def touches(self, house, entry, *wanted):
        """Just these cells are touched, a later one of wanted never weaker; the house stays."""
        cells = {}
        for part in wanted:
            for cell, mode in part.items():
                if NAMED[mode] >= NAMED[cells.get(cell, "read")]:
                    cells[cell] = mode
        seen = picture(house)
        told = touched(house, entry)
        self.assertIs(told.__class__, tuple)
        self.assertTrue(all(pair.__class__ is tuple for pair in told))
        self.assertEqual(told, tuple(sorted(cells.items())))
        self.assertEqual(picture(house), seen)

    def test_as_written_out_in_full(self):
        self.assertEqual(touched(house_of(("fork",)), P), (
            (("all",), "read"),
            (("group", ()), "add"),
            (("kin", ()), "write"),
            (("mail", (), "call"), "write"),
            (("mail", (), "halt"), "write"),
            (("mail", (), "hang"), "write"),
            (("mail", (), "kill"), "write"),
            (("mail", (), "kin"), "write"),
            (("mail", (), "on"), "write"),
            (("mail", (), "quit"), "write"),
            (("mail", (), "reads"), "write"),
            (("mail", (), "rest"), "write"),
            (("own", ()), "write"),
            (("own", (0,)), "write"),
        ))

    def test_rows_that_touch_their_own_alone(self):
        for row in (
            ("exec", "a"), ("exec", "zz"), ("pause",), ("mask", ("call",)), ("unmask", ()), ("handle", "call", "ignore"),
            ("return",), ("taker",), ("say", 1), ("goto", 0), ("if", 0, 0), ("if", 1, 0), ("send", "call", 3),
        ):
            with self.subTest(row=row):
                self.touches(house_of(row), P, own(P))
                self.touches(parted([("pause",)], [row]), C, own(C))

    def test_send_to_a_parent_that_is_none(self):
        self.touches(house_of(("send", "on", "parent")), P, own(P))

    def test_return_from_a_handler(self):
        house = house_of(("handle", "call", (2, ())), ("send", "call", "self"), ("return",))
        run(house, P, P, P)
        self.touches(house, P, own(P))
        self.assertEqual(run(house, P), (("return", P),))

    def test_what_falls_behind_handle(self):
        house = grown(Node([], Node([("handle", "call", "ignore")], ahead=[("mask", ("call",)), ("send", "call", "self")])))
        self.has(house, C, held=("call",))
        self.touches(house, C, own(C))

    def test_the_first_one_rests(self):
        self.touches(house_of(("end", 1)), P, own(P))
        house = house_of(("say", 1))
        run(house, P)
        self.touches(house, P, own(P))

    def test_an_end(self):
        self.assertEqual(touched(parted([], [("end", 1)]), C), ALL)
        house = house_of(("fork",))
        run(house, P)
        self.assertEqual(touched(house, C), ALL)

    def test_an_end_by_a_signal(self):
        for signal in ("kill", "hang", "quit", "call"):
            house = parted([("send", signal, 0)], [("say", 1)])
            self.touches(house, C, own(C))
            run(house, P)
            with self.subTest(signal=signal):
                self.assertEqual(touched(house, C), ALL)

    def test_kill_of_a_stopped_one(self):
        house = parted([("send", "halt", 0), ("send", "kill", 0)], [("say", 1)])
        run(house, P, C)
        self.touches(house, C, own(C))
        run(house, P)
        self.assertEqual(touched(house, C), ALL)

    def test_one_that_ended_idles(self):
        house = parted([], [("end", 1)])
        run(house, C)
        self.touches(house, C, own(C))

    def test_session(self):
        self.assertEqual(touched(parted([], [("session",)]), C), ALL)
        self.assertEqual(touched(house_of(("session",)), P), ALL)
        self.assertEqual(run(house_of(("session",)), P), (("lack", P),))

    def test_group(self):
        for where in ("new", "mine"):
            self.assertEqual(touched(parted([("group", 0, where)], []), P), ALL)
            self.assertEqual(touched(parted([], [("group", "self", where)]), C), ALL)
            for row in (("group", "self", where), ("group", 4, where)):
                house = house_of(row)
                self.assertEqual(touched(house, P), ALL)
                self.assertEqual(run(house, P), (("lack", P),))

    def test_session_and_group_that_are_not_done_yet(self):
        for row in (("session",), ("group", "self", "new")):
            house = parted([("send", "halt", 0), ("pause",)], [row])
            run(house, P)
            turned = [own(C), cells_of(("write", ("kin", P)), ("read", ("own", P))), mail(P, "kin")]
            self.touches(house, C, *turned)
            run(house, C)
            self.touches(house, C, own(C))

    def test_fork(self):
        house = parted([("fork",)], [("fork",)])
        self.touches(house, P, own(P), cells_of(("add", ("group", P)), ("write", ("kin", P), ("own", D))))
        self.touches(house, C, own(C), cells_of(("add", ("group", P)), ("write", ("kin", C), ("own", CC))))

    def test_fork_in_a_group_of_its_own(self):
        house = parted([], [("group", "self", "new"), ("fork",)])
        run(house, C)
        self.touches(house, C, own(C), cells_of(("add", ("group", C)), ("write", ("kin", C), ("own", CC))))

    def test_wait(self):
        for stops in (False, True):
            lacking = house_of(("wait", None, stops))
            self.touches(lacking, P, own(P), cells_of(("write", ("kin", P))))
            house = parted([("wait", 0, stops)], [("end", 1)])
            self.touches(house, P, own(P), cells_of(("write", ("kin", P))))
            run(house, C)
            self.touches(house, P, own(P), cells_of(("write", ("kin", P), ("own", C))))

    def test_wait_that_is_told_news(self):
        for stops, told in ((True, [("own", D)]), (False, [])):
            house = grown(Node([("send", "halt", 1), ("wait", None, stops)], Node([]), Node([])))
            run(house, P, D)
            self.touches(house, P, own(P), cells_of(("write", ("kin", P), *told)))

    def test_wait_that_is_told_on(self):
        house = parted([("send", "halt", 0), ("send", "on", 0), ("wait", None, True)], [])
        run(house, P, C, P)
        self.touches(house, P, own(P), cells_of(("write", ("kin", P), ("own", C))))

    def test_read_in_front(self):
        reads = cells_of(("read", ("front", P), ("group", P)), ("write", ("typed", P)))
        self.touches(house_of(("read",)), P, own(P), reads)
        self.touches(house_of(("read",), typed=(4,)), P, own(P), reads)
        self.touches(parted([], [("read",)]), C, own(C), reads)

    def test_read_out_of_front(self):
        family = Node([], Node([("fork",), ("read",)], ahead=[("group", "self", "new")]))
        house = grown(family)
        run(house, C)
        reads = cells_of(("read", ("front", P), ("group", C)), ("write", ("typed", P)))
        sent = [cells_of(("read", ("own", C), ("own", CC))), mail(C, *STOPS_AND_ON), mail(CC, *STOPS_AND_ON)]
        self.touches(house, C, own(C), reads, *sent)
        self.touches(house, CC, own(CC), reads, *sent)
        self.assertEqual(run(house, CC), (("held", C, "reads"), ("held", CC, "reads")))

    def test_read_out_of_front_that_lacks(self):
        reads = cells_of(("read", ("front", P), ("group", C)), ("write", ("typed", P)))
        for row in (("mask", ("reads",)), ("handle", "reads", "ignore")):
            house = parted([], [("group", "self", "new"), row, ("read",)])
            run(house, C, C)
            self.touches(house, C, own(C), reads)
            self.lacks(house, C)
        # The first one, with another group in front.
        house = grown(Node([("front", 0), ("read",)], Node([], ahead=[("group", "self", "new")])))
        run(house, P)
        self.touches(house, P, own(P), cells_of(("read", ("front", P), ("group", P)), ("write", ("typed", P))))
        self.lacks(house, P)

    def test_read_of_an_orphan(self):
        house = parted([], [("session",), ("read",)])
        run(house, C)
        self.touches(house, C, own(C), cells_of(("read", ("front", C), ("group", C)), ("write", ("typed", C))))
        self.lacks(house, C)

    def test_front(self):
        house = parted([("front", "self")], [("front", "self")])
        self.touches(house, P, own(P), cells_of(("write", ("front", P))))
        self.touches(house, C, own(C), cells_of(("write", ("front", P))))

    def test_front_of_a_child(self):
        house = parted([("front", 0)], [])
        self.touches(house, P, own(P), cells_of(("write", ("front", P)), ("read", ("own", C))))

    def test_front_that_lacks(self):
        house = parted([("front", 3)], [])
        self.touches(house, P, own(P), cells_of(("write", ("front", P))))
        # Another group is in front, but there is who is meant.
        family = Node([("front", 0), ("front", 1)], Node([], ahead=[("group", "self", "new")]), Node([]))
        house = grown(family)
        run(house, P)
        self.touches(house, P, own(P), cells_of(("write", ("front", P)), ("read", ("own", D))))
        self.lacks(house, P)

    def test_front_of_one_that_ended_or_is_elsewhere(self):
        for row in (("end", 1), ("session",)):
            house = parted([("front", 0)], [row])
            run(house, C)
            self.touches(house, P, own(P), cells_of(("write", ("front", P))))
            self.lacks(house, P)

    def test_front_in_another_session(self):
        house = parted([], [("session",), ("front", "self")])
        run(house, C)
        self.touches(house, C, own(C), cells_of(("write", ("front", C))))

    def test_send_to_each(self):
        for signal in SIGNALS:
            touched_mail = STOPS_AND_ON if signal in STOPS_AND_ON else (signal,)
            with self.subTest(signal=signal):
                self.touches(house_of(("send", signal, "self")), P, own(P))
                house = parted([("send", signal, 0)], [("send", signal, "parent")])
                self.touches(house, P, own(P), cells_of(("read", ("own", C))), mail(C, *touched_mail))
                self.touches(house, C, own(C), cells_of(("read", ("own", P))), mail(P, *touched_mail))
                house = grown(Node([("send", signal, "group")], Node([]), Node([], ahead=[("group", "self", "new")]), Node([])))
                reads = cells_of(("read", ("group", P), ("own", C), ("own", E)))
                self.touches(house, P, own(P), reads, mail(C, *touched_mail), mail(E, *touched_mail))

    def test_send_to_a_child_that_ended(self):
        house = parted([("send", "call", 0)], [("end", 1)])
        run(house, C)
        self.touches(house, P, own(P), cells_of(("read", ("own", C))), mail(C, "call"))

    def test_send_to_a_group_in_which_one_ended(self):
        house = grown(Node([("send", "call", "group")], Node([("end", 1)]), Node([])))
        run(house, C)
        self.touches(house, P, own(P), cells_of(("read", ("group", P), ("own", D))), mail(D, "call"))

    def test_send_to_a_child_that_was_taken_up(self):
        house = grown(Node([("send", "call", 0), ("wait", None, False)], Node([("end", 1)], Node([("send", "on", "parent")]))))
        run(house, C)
        self.touches(house, CC, own(CC), cells_of(("read", ("own", P))), mail(P, *STOPS_AND_ON))

    def test_on_to_one_that_runs(self):
        house = parted([("send", "on", 0)], [])
        self.touches(house, P, own(P), cells_of(("read", ("own", C))), mail(C, *STOPS_AND_ON))

    def test_on_to_a_stopped_one(self):
        house = parted([("send", "halt", 0), ("send", "on", 0)], [])
        run(house, P, C)
        self.touches(house, P, own(P), cells_of(("write", ("own", C), ("kin", P))), mail(C, *STOPS_AND_ON))

    def test_on_to_a_stopped_grandchild(self):
        family = Node([], Node([("send", "halt", 0)], Node([])))
        house = grown(family)
        run(house, C, CC)
        touched_by_key = [
            cells_of(("read", ("all",), ("front", P), ("group", P), ("own", P), ("own", C))),
            cells_of(("write", ("own", CC), ("kin", C))),
            mail(P, *STOPS_AND_ON), mail(C, *STOPS_AND_ON, "kin"), mail(CC, *STOPS_AND_ON),
        ]
        self.touches(house, ("key", P, "on"), *touched_by_key)

    def test_on_to_several_stopped_ones(self):
        family = Node([("send", "halt", 0), ("send", "halt", 1), ("send", "on", "group")], Node([]), Node([]), Node([]))
        house = grown(family)
        run(house, P, P, C, D)
        self.touches(
            house, P, own(P), cells_of(("read", ("group", P), ("own", E)), ("write", ("own", C), ("own", D), ("kin", P))),
            mail(C, *STOPS_AND_ON), mail(D, *STOPS_AND_ON), mail(E, *STOPS_AND_ON),
        )

    def test_a_stop_to_a_stopped_one(self):
        house = parted([("send", "halt", 0), ("send", "rest", 0)], [])
        run(house, P, C)
        self.touches(house, P, own(P), cells_of(("read", ("own", C))), mail(C, *STOPS_AND_ON))

    def test_a_stop_delivered(self):
        for signal in ("halt", "rest", "reads"):
            house = grown(Node([], Node([("send", signal, 0)], Node([("fork",)]))))
            run(house, C)
            turned = cells_of(("read", ("own", C)), ("write", ("kin", C)))
            self.touches(house, CC, own(CC), turned, mail(C, "kin"))
            run(house, CC)
            self.touches(house, CC, own(CC))

    def test_a_handler_begun(self):
        for signal in ("on", "rest", "call", "kin"):
            house = parted([("send", signal, 0)], [("handle", signal, ("there", ())), "there", ("fork",)])
            run(house, C, P)
            self.touches(house, C, own(C))
            self.assertEqual(run(house, C), (("begun", C, signal),))

    def test_put(self):
        house = parted([], [("session",)])
        self.touches(house, ("put", P, 1), cells_of(("read", ("all",)), ("write", ("typed", P))))
        run(house, C)
        self.touches(house, ("put", C, 99), cells_of(("read", ("all",)), ("write", ("typed", C))))

    def test_key(self):
        house = grown(Node([], Node([]), Node([], ahead=[("group", "self", "new")]), Node([("end", 1)])))
        run(house, E)
        for signal in SIGNALS:
            touched_mail = STOPS_AND_ON if signal in STOPS_AND_ON else (signal,)
            self.touches(
                house, ("key", P, signal), cells_of(("read", ("all",), ("front", P), ("group", P), ("own", P), ("own", C))),
                mail(P, *touched_mail), mail(C, *touched_mail),
            )

    def test_key_with_none_in_front(self):
        house = parted([], [("session",)])
        run(house, C)
        for signal in SIGNALS:
            self.touches(house, ("key", C, signal), cells_of(("read", ("all",), ("front", C))))

    def test_key_of_another_front(self):
        house = grown(Node([("front", 0)], Node([], ahead=[("group", "self", "new")])))
        run(house, P)
        reads = cells_of(("read", ("all",), ("front", P), ("group", C), ("own", C)))
        self.touches(house, ("key", P, "hang"), reads, mail(C, "hang"))

    def test_by_many_scripts(self):
        """Each cell once, as Python sorts, and what a step changes is written."""
        heard = set()
        for seed in range(120):
            for house, entry in some_walk(random.Random(f"touched {seed}"), 60):
                seen = picture(house)
                told = touched(house, entry)
                self.assertEqual(picture(house), seen)
                self.assertEqual(list(told), sorted(told))
                cells = dict(told)
                self.assertEqual(len(cells), len(told))
                heard |= {(cell[0], mode) for cell, mode in told}
                twin = house.twin()
                twin.step(entry)
                behind = picture(twin)
                if told == ALL:
                    continue
                self.assertEqual(cells[("all",)], "read")
                for name in behind[0]:
                    if behind[0][name] != seen[0].get(name):
                        held_alone = name in seen[0] and all(
                            one == other for at, (one, other) in enumerate(zip(behind[0][name], seen[0][name])) if at != 9
                        )
                        if not held_alone:
                            self.assertEqual(cells[("own", name)], "write")
                        old = seen[0][name][9] if name in seen[0] else ()
                        for signal in set(old) ^ set(behind[0][name][9]):
                            self.assertEqual(cells[("mail", name, signal)], "write")
                for session in behind[1]:
                    for at, kind in enumerate(("front", "typed")):
                        if behind[1][session][at] != seen[1][session][at]:
                            self.assertEqual(cells[(kind, session)], "write")
        self.assertEqual(heard, {
            ("all", "read"), ("all", "write"), ("own", "read"), ("own", "write"), ("mail", "write"), ("kin", "write"),
            ("group", "read"), ("group", "add"), ("front", "read"), ("front", "write"), ("typed", "write"),
        })


class Refused(Case):
    def things(self):
        return [
            *anything(), ("put", P, 100), ("put", P, -1), ("put", P, True), ("put", P), ("key", P, "zz"), ("key", P),
            ("put", [], 1), ("key", "", "on"), ["put", P, 1], (-1,), (False,), [0], ("step", P), ("put", P, 1, 1),
            (7,), (0, 0), ("put", (7,), 1), ("key", (0,), "on"), ("put", (True,), 1),
        ]

    def error_of(self, doing, *things):
        try:
            doing(*things)
        except (NoEntry, NoOne, NoSession) as error:
            return error.__class__, getattr(error, "name", None)
        return None

    def test_as_step(self):
        house = parted([("pause",)], [("pause",)], typed=(1,))
        seen, refused = picture(house), 0
        for thing in self.things():
            with self.subTest(thing=thing):
                ahead = frozen(thing)
                wanted = self.error_of(house.twin().step, thing)
                self.assertEqual(self.error_of(touched, house, thing), wanted)
                self.assertEqual(self.error_of(meet, house, thing, P), wanted)
                self.assertEqual(self.error_of(meet, house, P, thing), wanted)
                self.assertEqual(frozen(thing), ahead)
                self.assertEqual(picture(house), seen)
                refused += wanted is not None
        self.assertGreater(refused, 50)

    def test_with_their_values(self):
        house = house_of(("pause",))
        self.assertEqual(self.error_of(touched, house, (7,)), (NoOne, (7,)))
        self.assertEqual(self.error_of(touched, house, ("put", (7,), 1)), (NoSession, (7,)))
        self.assertEqual(self.error_of(touched, house, ("key", (0, 1), "on")), (NoSession, (0, 1)))
        self.assertEqual(self.error_of(touched, house, ("put", (7,), 100)), (NoEntry, None))
        self.assertEqual(self.error_of(touched, house, [()]), (NoEntry, None))

    def test_the_first_entry_then_the_second(self):
        house = house_of(("pause",))
        wrong = [(None, (NoEntry, None)), ((7,), (NoOne, (7,))), ((8,), (NoOne, (8,))), (("put", (9,), 1), (NoSession, (9,)))]
        for one, error in wrong:
            for other, _ in wrong:
                self.assertEqual(self.error_of(meet, house, one, other), error)


class Meet(Case):
    def meets(self, house, one, other, truth):
        seen = picture(house)
        self.assertIs(meet(house, one, other), truth)
        self.assertIs(meet(house, other, one), truth)
        self.assertEqual(picture(house), seen)
        if not truth:
            self.exchanged(house, one, other)

    def exchanged(self, house, one, other):
        """Either way about: the same house, each with the same events."""
        first, second = house.twin(), house.twin()
        told = first.step(one), first.step(other)
        told_exchanged = second.step(other), second.step(one)
        self.assertEqual(told, told_exchanged[::-1])
        self.assertEqual(first, second)

    def test_an_entry_with_itself(self):
        house = parted([], [])
        for entry in (P, C, ("put", P, 1), ("key", P, "call")):
            self.meets(house, entry, entry, True)

    def test_two_that_go_their_own_ways(self):
        self.meets(parted([("say", 1)], [("say", 2)]), P, C, False)

    def test_two_that_only_add(self):
        self.meets(parted([("fork",)], [("fork",)]), P, C, False)

    def test_two_that_only_read(self):
        # Both send to one group, other signals.
        family = Node([], Node([("send", "call", 0), ("pause",)], Node([])), Node([("send", "hang", "parent")]))
        house = grown(family)
        self.meets(house, ("key", P, "call"), ("key", P, "hang"), False)
        self.meets(house, ("key", P, "call"), ("key", P, "call"), True)
        self.meets(house, ("key", P, "halt"), ("key", P, "on"), True)
        self.meets(house, C, D, False)

    def test_one_that_adds_and_one_that_reads(self):
        house = grown(Node([], Node([("send", "call", "group")]), Node([], Node([("fork",)]))))
        # The fork's group is read by the send, and none writes it; but the send reads who forks, too.
        self.assertEqual(dict(touched(house, C))[("group", P)], "read")
        self.assertEqual(dict(touched(house, (1, 0)))[("group", P)], "add")
        self.meets(house, C, (1, 0), True)

    def test_a_fork_and_a_read_of_its_group(self):
        """Nothing but the group is touched by both, so that adding and reading is all by which they meet."""
        house = grown(Node([], Node([("fork",)]), Node([("read",)])), typed=(3,))
        shared = set(dict(touched(house, C))) & set(dict(touched(house, D)))
        self.assertEqual(shared, {("all",), ("group", P)})
        self.meets(house, C, D, True)

    def test_one_that_writes_all(self):
        house = grown(Node([("say", 1)], Node([("session",)]), Node([("end", 1)])))
        for entry in (P, C, D, ("put", P, 1), ("key", P, "on")):
            self.meets(house, C, entry, True)
            self.meets(house, D, entry, True)

    def test_a_reader_and_what_is_put(self):
        house = parted([("say", 1)], [("read",)])
        self.meets(house, C, ("put", P, 1), True)
        self.meets(house, P, ("put", P, 1), False)
        self.meets(house, ("key", P, "call"), ("put", P, 1), False)

    def test_a_sender_and_who_gets_it(self):
        house = parted([("send", "call", 0)], [("say", 1)])
        self.meets(house, P, C, True)

    def test_two_senders(self):
        def senders(one, other):
            family = Node([], Node([("send", one, "parent")]), Node([("send", other, "parent")]))
            return grown(family)
        self.meets(senders("call", "call"), C, D, True)
        self.meets(senders("call", "hang"), C, D, False)
        self.meets(senders("on", "rest"), C, D, True)
        self.meets(senders("halt", "reads"), C, D, True)
        self.meets(senders("halt", "call"), C, D, False)

    def test_fronts(self):
        house = parted([("front", "self")], [("front", "self")])
        self.meets(house, P, C, True)
        self.meets(house, C, ("key", P, "call"), True)
        self.meets(house, C, ("put", P, 1), False)

    def test_sessions_apart(self):
        house = parted([], [("session",)])
        run(house, C)
        self.meets(house, ("put", P, 1), ("put", C, 1), False)
        self.meets(house, ("put", P, 1), ("put", P, 2), True)

    def test_a_stop_and_a_wait(self):
        house = parted([("send", "halt", 0), ("wait", None, True)], [])
        run(house, P)
        self.meets(house, P, C, True)

    def test_by_many_scripts(self):
        apart = together = 0
        for seed in range(150):
            chance = random.Random(f"meet {seed}")
            for house, entry in some_walk(chance, 60):
                for other in [*house.names(), some_entry(chance, house), some_entry(chance, house)]:
                    truth = meet(house, entry, other)
                    self.assertIs(meet(house, other, entry), truth)
                    ones, others = dict(touched(house, entry)), dict(touched(house, other))
                    clashes = [
                        cell for cell in ones
                        if cell in others and {ones[cell], others[cell]} not in ({"read"}, {"add"})
                    ]
                    self.assertEqual(truth, bool(clashes))
                    if not truth:
                        self.exchanged(house, entry, other)
                    apart, together = apart + (not truth), together + truth
        self.assertGreater(min(apart, together), 2000)

    def test_scripts_in_which_pairs_are_exchanged(self):
        """Neighbours that don't meet are exchanged, again and again: the same house, each entry's events the same."""
        exchanges = 0
        for seed in range(150):
            chance = random.Random(f"exchanged {seed}")
            steps = list((house.twin(), entry) for house, entry in some_walk(chance, 40))
            if not steps:
                continue
            start, script = steps[0][0], [entry for house, entry in steps]
            there = start.twin()
            told = list(walk(there, tuple(script)))
            for _ in range(30):
                at = chance.randrange(max(1, len(script) - 1))
                ahead = start.twin()
                walk(ahead, tuple(script[:at]))
                pair = script[at:at + 2]
                # One that is born by the step ahead isn't there yet.
                if len(pair) < 2 or self.is_not_there(ahead, pair[1]) or meet(ahead, *pair):
                    continue
                script[at:at + 2] = pair[::-1]
                told[at:at + 2] = told[at:at + 2][::-1]
                exchanges += 1
            again = start.twin()
            self.assertEqual(walk(again, tuple(script)), tuple(told))
            self.assertEqual(again, there)
        self.assertGreater(exchanges, 300)

    def is_not_there(self, house, entry):
        try:
            house.twin().step(entry)
        except (NoOne, NoSession):
            return True
        return False


if __name__ == "__main__":
    unittest.main()
