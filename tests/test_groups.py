"""Groups, sessions, fronts, read, orphans, and what happens at the end of each step."""

import unittest

from scenes import Case, Node, grown, house_of, parted, run

P, C, D = (), (0,), (1,)
CC, CD, CE, CCC = (0, 0), (0, 1), (0, 2), (0, 0, 0)
SESSION = (("session",),)


def led(lines, *children):
    """A house whose first one's child leads a session of its own, with children in it."""
    return grown(Node((), Node(lines, *children, ahead=SESSION)))


class Session(Case):
    def test_by_a_child(self):
        house = parted((), (("session",), ("session",)), typed=(5,))
        self.takes(house, C, [("session", C)], {
            C: {"row": 4, "group": C, "session": C}, ("front", C): None, ("typed", C): (),
        })
        self.assertEqual(house.sessions(), (P, C))
        self.lacks(house, C)
        self.assertEqual((house.front(P), house.typed(P)), (P, (5,)))

    def test_last_is_0_behind_it(self):
        house = parted((), (("return",), ("session",)))
        run(house, C, C)
        self.has(house, C, last=0, row=5)

    def test_never_by_the_first_one(self):
        house = house_of(("session",), ("fork",), ("session",))
        self.lacks(house, P)
        run(house, P)
        self.lacks(house, P)
        self.assertEqual(house.sessions(), (P,))

    def test_not_by_one_that_stands_in_the_group_of_its_name(self):
        house = parted((), (("group", "self", "new"), ("session",)))
        run(house, C)
        self.lacks(house, C)

    def test_not_while_another_one_lives_in_the_group_of_its_name(self):
        house = grown(Node((("group", 0, "mine"),), Node(
            (("session",), ("session",)), Node((("send", "halt", "self"),)),
            ahead=(("group", "self", "new"),),
        )))
        run(house, P)
        self.has(house, C, group=P)
        self.has(house, CC, group=C)
        self.lacks(house, C)
        run(house, CC, CC)
        self.has(house, CC, how="stopped")
        self.lacks(house, C)

    def test_one_that_ended_there_does_not_hinder(self):
        house = grown(Node((("group", 0, "mine"),), Node(
            (("session",),), Node((("end", 1),)), ahead=(("group", "self", "new"),),
        )))
        run(house, P, CC)
        self.has(house, CC, how="ended", group=C, session=P)
        self.takes(house, C, [("session", C)],
                   {C: {"row": 8, "session": C, "group": C, "last": 0}, ("front", C): None, ("typed", C): ()})

    def test_sessions_within_a_session(self):
        house = led((), Node(SESSION))
        self.has(house, CC, session=C, group=C)
        run(house, CC)
        self.has(house, CC, session=CC, group=CC)
        self.assertEqual(house.sessions(), (P, C, CC))

    def test_the_front_that_is_left_is_bare(self):
        house = grown(Node((("group", 0, "new"), ("front", 0)), Node((("fork",), ("if", 0, "c"), ("end", 1),
                                                                      "c", ("session",)))))
        run(house, P, P, C, C, CC, C)
        self.assertEqual(house.front(P), C)
        self.takes(house, CC, [("session", CC), ("bare", P)], {
            CC: {"row": 9, "session": CC, "group": CC}, ("front", P): None, ("front", CC): None, ("typed", CC): (),
        })


class Group(Case):
    def test_oneself_new_and_mine(self):
        house = parted((), (("group", "self", "mine"), ("group", "self", "new"), ("group", "self", "new"),
                            ("group", "self", "mine")))
        self.takes(house, C, [("group", C, P)], {C: {"row": 4}})
        self.takes(house, C, [("group", C, C)], {C: {"row": 5, "group": C}})
        self.takes(house, C, [("group", C, C)], {C: {"row": 6}})
        self.takes(house, C, [("group", C, C)], {C: {"row": 7}})

    def test_a_child_new_and_mine(self):
        house = parted((("group", 0, "new"), ("group", 0, "mine"), ("group", 0, "mine")), ())
        self.takes(house, P, [("group", C, C)], {P: {"row": 3, "last": 0}, C: {"group": C}})
        self.takes(house, P, [("group", C, P)], {P: {"row": 4}, C: {"group": P}})
        self.takes(house, P, [("group", C, P)], {P: {"row": 5}})

    def test_mine_is_the_group_of_the_one_who_does_it(self):
        house = grown(Node((("group", 0, "new"),), Node((("group", 0, "mine"), ("group", 1, "new")),
                                                      Node(()), Node(()))))
        run(house, P)
        self.takes(house, C, [("group", CC, C)], {C: {"row": 9, "last": 0}, CC: {"group": C}})
        self.takes(house, C, [("group", CD, CD)], {C: {"row": 10}, CD: {"group": CD}})

    def test_never_the_first_one(self):
        house = house_of(("group", "self", "new"), ("group", "self", "mine"))
        self.lacks(house, P)
        self.lacks(house, P)

    def test_a_child_that_never_was(self):
        house = parted((("group", 1, "new"), ("group", 99, "mine")), (("group", 0, "new"), ("group", 0, "mine")))
        for name in (P, P, C, C):
            self.lacks(house, name)

    def test_a_child_that_ended(self):
        house = parted((("group", 0, "new"), ("group", 0, "mine"), ("wait", 0, False), ("group", 0, "new")), (("end", 1),))
        run(house, C)
        self.lacks(house, P)
        self.lacks(house, P)
        run(house, P)
        self.lacks(house, P)

    def test_a_child_that_is_stopped_is_moved(self):
        house = parted((("send", "halt", 0), ("group", 0, "new")), ())
        run(house, P, C)
        self.takes(house, P, [("group", C, C)], {P: {"row": 4}, C: {"group": C}})
        self.has(house, C, how="stopped")

    def test_a_child_that_changed(self):
        house = parted((("group", 0, "new"), ("group", 0, "mine")), (("exec", "b"), ), b=(("group", "self", "new"),))
        run(house, C)
        self.lacks(house, P)
        self.lacks(house, P)
        self.takes(house, C, [("group", C, C)], {C: {"row": 1, "group": C}})

    def test_by_one_that_changed(self):
        house = house_of(("exec", "b"), b=(("fork",), ("group", 0, "new")))
        run(house, P, P)
        self.takes(house, P, [("group", C, C)], {P: {"row": 2, "last": 0}, C: {"group": C}})

    def test_a_child_in_another_session(self):
        house = parted((("group", 0, "new"), ("group", 0, "mine")), SESSION)
        run(house, C)
        self.lacks(house, P)
        self.lacks(house, P)
        self.has(house, C, group=C, session=C)

    def test_a_session_s_leader_itself(self):
        house = led((("group", "self", "new"), ("group", "self", "mine"), ("group", 0, "new")), Node(()))
        self.lacks(house, C)
        self.lacks(house, C)
        self.takes(house, C, [("group", CC, CC)], {C: {"row": 9, "last": 0}, CC: {"group": CC}})

    def test_a_child_s_child_is_not_meant(self):
        house = grown(Node((("wait", None, False), ("group", 0, "new")), Node((("end", 1),), Node(()))))
        run(house, C, P)
        self.has(house, CC, parent=P)
        self.lacks(house, P)

    def test_the_front_that_is_left_is_bare(self):
        house = parted((("group", 0, "new"), ("front", 0), ("group", 0, "mine")), ())
        run(house, P, P)
        self.takes(house, P, [("group", C, P), ("bare", P)],
                   {P: {"row": 5}, C: {"group": P}, ("front", P): None})

    def test_a_front_in_which_one_still_lives_stays(self):
        house = grown(Node((("group", 0, "new"), ("front", 0), ("group", 0, "mine")), Node((("fork",),))))
        run(house, P, C, P, P)
        self.has(house, CC, group=C)
        self.has(house, C, group=P)
        self.assertEqual(house.front(P), C)


class Front(Case):
    def test_of_oneself(self):
        house = parted((("front", "self"),), (("front", "self"),))
        self.takes(house, P, [("front", P, P)], {P: {"row": 3, "last": 0}})
        self.takes(house, C, [("front", P, P)], {C: {"row": 5}})

    def test_of_a_child(self):
        house = parted((("group", 0, "new"), ("front", 0)), ())
        run(house, P)
        self.takes(house, P, [("front", P, C)], {P: {"row": 4}, ("front", P): C})

    def test_not_by_one_that_is_not_in_front(self):
        house = grown(Node((("group", 0, "new"), ("front", 0), ("front", "self"), ("front", 0), ("front", 1)),
                           Node((("front", "self"),)), Node((("front", "self"),))))
        run(house, P, P)
        for _ in range(3):
            self.lacks(house, P)
        self.lacks(house, D)
        self.takes(house, C, [("front", P, C)], {C: {"row": 11}})

    def test_by_another_one_of_the_front_group(self):
        house = grown(Node((), Node(()), Node((("fork",), ("group", 0, "new"), ("front", 0)))))
        run(house, D, D)
        self.takes(house, D, [("front", P, (1, 0))], {D: {"row": 9}, ("front", P): (1, 0)})

    def test_by_anyone_where_nobody_is_in_front(self):
        house = led((("group", 0, "new"), ("front", 0)), Node((("front", "self"),)), Node((("front", "self"),)))
        run(house, C)
        self.assertIsNone(house.front(C))
        twin = house.twin()
        self.takes(house, CC, [("front", C, CC)], {CC: {"row": 12}, ("front", C): CC})
        self.lacks(house, CD)
        self.lacks(house, C)
        self.takes(twin, CD, [("front", C, C)], {CD: {"row": 14}, ("front", C): C})
        self.takes(twin, C, [("front", C, CC)], {C: {"row": 10}, ("front", C): CC})

    def test_of_a_session_s_leader(self):
        house = led((("front", "self"),), Node(()))
        self.takes(house, C, [("front", C, C)], {C: {"row": 7, "last": 0}, ("front", C): C})
        self.assertEqual(house.front(P), P)

    def test_of_a_child_that_changed(self):
        house = parted((("group", 0, "new"), ("front", 0)), (("exec", "b"),), b=(("pause",),))
        run(house, P, C)
        self.takes(house, P, [("front", P, C)], {P: {"row": 4}, ("front", P): C})

    def test_by_one_that_changed(self):
        house = house_of(("exec", "b"), b=(("front", "self"),))
        run(house, P)
        self.takes(house, P, [("front", P, P)], {P: {"row": 1}})

    def test_of_a_child_that_is_stopped(self):
        house = parted((("group", 0, "new"), ("send", "halt", 0), ("front", 0)), ())
        run(house, P, P, C)
        self.takes(house, P, [("front", P, C)], {P: {"row": 5}, ("front", P): C})

    def test_of_none_such(self):
        house = parted((("front", 1), ("front", 0), ("front", 0)), (("front", 0), ("session",), ("end", 1)))
        self.lacks(house, P)
        self.lacks(house, C)
        run(house, C)
        self.lacks(house, P)
        run(house, C)
        self.lacks(house, P)

    def test_of_a_child_that_ended(self):
        house = parted((("front", 0), ("wait", 0, False), ("front", 0)), (("end", 1),))
        run(house, C)
        self.lacks(house, P)
        run(house, P)
        self.lacks(house, P)

    def test_of_one_that_was_taken_up(self):
        house = grown(Node((("wait", None, False), ("front", 0)), Node((("end", 1),), Node(()))))
        run(house, C, P)
        self.has(house, CC, parent=P)
        self.lacks(house, P)


class Read(Case):
    def test_in_front(self):
        house = parted((("read",), ("read",), ("read",)), (("read",),), typed=(4, 0))
        self.takes(house, P, [("read", P, 4)], {P: {"row": 3, "last": 4}, ("typed", P): (0,)})
        self.takes(house, C, [("read", C, 0)], {C: {"row": 7}, ("typed", P): ()})
        self.idles(house, P, "reads")
        run(house, ("put", P, 99), ("put", P, 98))
        self.takes(house, P, [("read", P, 99)], {P: {"row": 4, "last": 99}, ("typed", P): (98,)})

    def test_masked_or_ignored_in_front(self):
        for row in (("mask", ("reads",)), ("handle", "reads", "ignore")):
            house = parted((), (row, ("read",)), typed=(4,))
            run(house, C)
            self.takes(house, C, [("read", C, 4)], {C: {"row": 5, "last": 4}, ("typed", P): ()})

    def test_of_its_own_session(self):
        house = led((("front", "self"), ("read",)))
        run(house, C, ("put", P, 1))
        self.idles(house, C, "reads")
        run(house, ("put", C, 2))
        self.takes(house, C, [("read", C, 2)], {C: {"row": 6, "last": 2}, ("typed", C): ()})
        self.assertEqual(house.typed(P), (1,))

    def test_out_of_front_reads_is_sent_to_the_group(self):
        house = grown(Node((("group", 0, "new"),), Node((("fork",), ("return",), ("read",)))), typed=(7,))
        run(house, P, C, C)
        self.has(house, C, last=-1, row=6)
        self.has(house, CC, group=C)
        self.takes(house, C, [("held", C, "reads"), ("held", CC, "reads")],
                   {C: {"held": ("reads",)}, CC: {"held": ("reads",)}})
        self.has(house, C, last=-1, row=6)
        self.takes(house, C, [("struck", C, "reads"), ("fell", P, "kin")],
                   {C: {"how": "stopped", "news": "stopped", "held": ()}})
        self.takes(house, CC, [("struck", CC, "reads"), ("fell", C, "kin")],
                   {CC: {"how": "stopped", "news": "stopped", "held": ()}})
        self.assertEqual(house.typed(P), (7,))

    def test_the_row_is_done_again(self):
        house = parted((("group", 0, "new"), ("front", 0), ("send", "on", 0)), (("read",),), typed=(7,))
        run(house, P, C, C, P, P)
        self.takes(house, C, [("read", C, 7)], {C: {"row": 7, "last": 7}, ("typed", P): ()})

    def test_merged_with_what_another_one_holds(self):
        house = parted((("group", 0, "new"), ("send", "on", 0)),
                       (("fork",), ("if", 0, "k"), ("read",), "k", ("mask", ("reads",))))
        run(house, P, C, C, CC, CC, C, C, P)
        self.has(house, CC, held=("reads",), mask=("reads",))
        self.has(house, C, held=(), how="runs")
        self.takes(house, C, [("held", C, "reads"), ("merged", CC, "reads")], {C: {"held": ("reads",)}})

    def test_lacks_where_it_is_masked_or_ignored(self):
        for row in (("mask", ("reads",)), ("handle", "reads", "ignore")):
            house = parted((("group", 0, "new"),), (row, ("read",)), typed=(4,))
            run(house, P, C)
            self.lacks(house, C)

    def test_handled_it_begins_and_is_done_again(self):
        house = parted((("group", 0, "new"),), (("handle", "reads", ("h", ())), "r", ("read",), "h", ("return",)))
        run(house, P, C)
        self.assertEqual(run(house, C, C, C, C), (
            ("held", C, "reads"), ("begun", C, "reads"), ("return", C), ("held", C, "reads"),
        ))

    def test_masks_of_others_are_not_asked(self):
        house = parted((("group", 0, "new"),), (("fork",), ("if", 0, "k"), ("read",),
                                                "k", ("handle", "reads", "ignore")))
        run(house, P, C, C, CC, CC)
        self.takes(house, C, [("held", C, "reads"), ("fell", CC, "reads")], {C: {"held": ("reads",)}})

    def test_it_looses_on(self):
        house = parted((("group", 0, "new"), ("send", "on", 0)), (("handle", "on", (0, ())), ("mask", ("on",)), ("read",)))
        run(house, P, C, C, P)
        self.takes(house, C, [("loosed", C, "on"), ("held", C, "reads")], {C: {"held": ("reads",)}})

    def test_the_first_one_lacks_it_out_of_front(self):
        house = parted((("group", 0, "new"), ("front", 0), ("read",)), (), typed=(4,))
        run(house, P, P)
        self.lacks(house, P)

    def test_the_first_one_lacks_it_though_its_group_is_no_orphan(self):
        house = grown(Node((("group", 0, "new"), ("front", 0), ("handle", "reads", (0, ())), ("read",)),
                           Node((), Node(()))), typed=(4,))
        run(house, P, P, P)
        # CC stands in the group of the first one, and its parent stands in another group.
        self.has(house, CC, group=P, parent=C)
        self.has(house, C, group=C)
        self.lacks(house, P)

    def test_a_child_of_such_a_group_does_not_lack_it(self):
        house = grown(Node((("group", 0, "new"), ("front", 0)), Node((), Node((("read",),)))), typed=(4,))
        run(house, P, P)
        self.takes(house, CC, [("fell", P, "reads"), ("held", CC, "reads")], {CC: {"held": ("reads",)}})

    def test_an_orphan_lacks_it(self):
        house = led((("read",),))
        run(house, ("put", C, 4))
        self.lacks(house, C)

    def test_no_orphan_in_a_session_without_front(self):
        house = led((("group", 0, "new"),), Node((("read",),)))
        run(house, C, ("put", C, 4))
        self.takes(house, CC, [("held", CC, "reads")], {CC: {"held": ("reads",)}})

    def test_an_orphan_in_the_session_of_the_first_one(self):
        # Both stand in the group of the first one, and so do their parents.
        house = grown(Node((("group", 1, "new"), ("front", 1)), Node((("read",),), Node((("read",),))), Node(())))
        run(house, P, P)
        self.assertEqual(house.front(P), D)
        self.lacks(house, C)
        self.lacks(house, CC)


class LeaderEnds(Case):
    def test_its_own_group_in_front(self):
        house = led((("front", "self"), ("end", 1)))
        run(house, C)
        self.takes(house, C, [("ended", C, 1), ("fell", P, "kin"), ("bare", C)],
                   {C: {"how": "ended", "word": 1}, ("front", C): None})

    def test_nobody_in_front(self):
        house = led((("end", 1),), Node(()))
        self.takes(house, C, [("ended", C, 1), ("taken", CC, P), ("fell", P, "kin")],
                   {C: {"how": "ended", "word": 1}, CC: {"parent": P}})

    def test_hang_then_on_to_the_front_group(self):
        house = led((("front", "self"), ("end", 1)), Node(()), Node((("send", "halt", "self"),)))
        run(house, C, CD, CD)
        self.takes(house, C, [
            ("ended", C, 1), ("taken", CC, P), ("taken", CD, P), ("fell", P, "kin"),
            ("held", CC, "hang"), ("held", CD, "hang"),
            ("fell", CC, "on"), ("on", CD), ("fell", P, "kin"),
            ("bare", C),
        ], {
            C: {"how": "ended", "word": 1}, CC: {"parent": P, "held": ("hang",)},
            CD: {"parent": P, "held": ("hang",), "how": "runs", "news": "on"}, ("front", C): None,
        })

    def test_another_group_in_front(self):
        house = led((("group", 0, "new"), ("group", 1, "new"), ("front", 1), ("end", 1)), Node(()), Node(()))
        run(house, C, C, C)
        self.takes(house, C, [
            ("ended", C, 1), ("taken", CC, P), ("taken", CD, P), ("fell", P, "kin"),
            ("held", CD, "hang"), ("fell", CD, "on"), ("bare", C),
        ], {
            C: {"how": "ended", "word": 1}, CC: {"parent": P}, CD: {"parent": P, "held": ("hang",)},
            ("front", C): None,
        })

    def test_by_a_signal_and_let_go(self):
        house = grown(Node((("handle", "kin", "ignore"), ("send", "kill", 0)), Node(
            (("front", "self"),), Node(()), ahead=SESSION,
        )))
        run(house, P, C, P)
        self.takes(house, C, [
            ("struck", C, "kill"), ("ended", C, "kill"), ("taken", CC, P), ("let", C),
            ("held", CC, "hang"), ("fell", CC, "on"), ("bare", C),
        ], {C: None, CC: {"parent": P, "held": ("hang",)}, ("front", C): None})
        self.assertEqual(house.sessions(), (P, C))
        self.has(house, CC, session=C, group=C)

    def test_one_that_ended_in_the_front_group_gets_nothing(self):
        house = led((("front", "self"), ("end", 1)), Node((("end", 2),)), Node(()))
        run(house, C, CC)
        self.assertEqual(run(house, C)[-3:], (("held", CD, "hang"), ("fell", CD, "on"), ("bare", C)))

    def test_the_end_of_another_one_is_no_leader_s(self):
        house = led((("front", "self"),), Node((("end", 1),)), Node(()))
        run(house, C)
        self.takes(house, CC, [("ended", CC, 1), ("fell", C, "kin")], {CC: {"how": "ended", "word": 1}})
        self.assertEqual(house.front(C), C)

    def test_a_group_s_first_one_is_no_leader(self):
        house = grown(Node((("group", 0, "new"), ("front", 0)), Node((("fork",), ("end", 1)))))
        run(house, P, P, C)
        self.takes(house, C, [("ended", C, 1), ("taken", CC, P), ("fell", P, "kin")],
                   {C: {"how": "ended", "word": 1}, CC: {"parent": P}})
        self.assertEqual(house.front(P), C)

    def test_a_session_without_its_leader_goes_on(self):
        house = led((("group", 0, "new"), ("end", 1)), Node((("front", "self"), ("read",))))
        run(house, C, C)
        self.takes(house, CC, [("front", C, CC)], {CC: {"row": 10}, ("front", C): CC})
        run(house, ("put", C, 6))
        self.assertEqual(run(house, CC), (("read", CC, 6),))


class Bare(Case):
    def test_the_last_one_in_front_ends(self):
        house = parted((("group", 0, "new"), ("front", 0)), (("end", 1),))
        run(house, P, P)
        self.takes(house, C, [("ended", C, 1), ("fell", P, "kin"), ("bare", P)],
                   {C: {"how": "ended", "word": 1}, ("front", P): None})
        self.idles(house, C, "ended")

    def test_the_last_one_in_front_is_struck(self):
        house = parted((("group", 0, "new"), ("front", 0), ("send", "call", 0)), ())
        run(house, P, P, P)
        self.assertEqual(run(house, C), (
            ("struck", C, "call"), ("ended", C, "call"), ("fell", P, "kin"), ("bare", P),
        ))

    def test_not_the_last_one(self):
        house = grown(Node((("group", 0, "new"), ("front", 0)), Node((("fork",), ("end", 1)))))
        run(house, P, P, C, C)
        self.assertEqual(house.front(P), C)
        self.assertEqual(run(house, CC)[-1], ("bare", P))
        self.assertIsNone(house.front(P))

    def test_who_is_stopped_still_lives(self):
        house = parted((("group", 0, "new"), ("front", 0), ("send", "halt", 0)), ())
        run(house, P, P, P, C)
        self.assertEqual(house.front(P), C)

    def test_a_front_is_taken_again(self):
        house = parted((("group", 0, "new"), ("front", 0), ("front", "self")), (("end", 1),))
        run(house, P, P, C)
        self.takes(house, P, [("front", P, P)], {P: {"row": 5}, ("front", P): P})


class Orphans(Case):
    def test_a_leader_s_end_calls_the_groups_with_a_stopped_one(self):
        house = led((("group", 0, "new"), ("group", 1, "new"), ("group", 2, "new"), ("end", 1)),
                    Node((("send", "halt", "self"),)), Node(()), Node((("send", "rest", "self"),)))
        run(house, C, C, C, CC, CC, CE, CE)
        self.takes(house, C, [
            ("ended", C, 1), ("taken", CC, P), ("taken", CD, P), ("taken", CE, P), ("fell", P, "kin"),
            ("held", CC, "hang"), ("on", CC), ("fell", P, "kin"),
            ("held", CE, "hang"), ("on", CE), ("fell", P, "kin"),
        ], {
            C: {"how": "ended", "word": 1}, CC: {"parent": P, "held": ("hang",), "how": "runs", "news": "on"},
            CD: {"parent": P}, CE: {"parent": P, "held": ("hang",), "how": "runs", "news": "on"},
        })

    def test_all_of_the_group_are_called_hang_first(self):
        house = led((("group", 0, "new"), ("end", 1)), Node((("fork",), ("if", 0, "k"), ("pause",),
                                                            "k", ("send", "halt", "self"))))
        run(house, C, CC, CC, CCC, CCC, CCC)
        self.has(house, CCC, how="stopped", group=CC)
        self.assertEqual(run(house, C)[3:], (
            ("held", CC, "hang"), ("held", CCC, "hang"), ("fell", CC, "on"), ("on", CCC), ("fell", CC, "kin"),
        ))

    def test_the_front_group_was_called_already(self):
        house = led((("group", 0, "new"), ("front", 0), ("end", 1)), Node((("send", "halt", "self"),)))
        run(house, C, C, CC, CC)
        self.assertEqual(run(house, C), (
            ("ended", C, 1), ("taken", CC, P), ("fell", P, "kin"),
            ("held", CC, "hang"), ("on", CC), ("fell", P, "kin"), ("bare", C),
        ))

    def test_a_group_with_a_parent_in_its_session_is_none(self):
        house = grown(Node((), Node((("taker",), ("group", 0, "new")), Node(
            (("fork",), ("if", 0, "k"), ("end", 1), "k", ("send", "halt", "self")),
        ), ahead=SESSION)))
        run(house, C, C, CC, CC, CCC, CCC, CCC)
        self.takes(house, CC, [("ended", CC, 1), ("taken", CCC, C), ("fell", C, "kin")],
                   {CC: {"how": "ended", "word": 1}, CCC: {"parent": C}})

    def test_without_such_a_taker_it_is_one(self):
        house = grown(Node((), Node((("group", 0, "new"),), Node(
            (("fork",), ("if", 0, "k"), ("end", 1), "k", ("send", "halt", "self")),
        ), ahead=SESSION)))
        run(house, C, CC, CC, CCC, CCC, CCC)
        self.takes(house, CC, [
            ("ended", CC, 1), ("taken", CCC, P), ("fell", C, "kin"), ("held", CCC, "hang"), ("on", CCC), ("fell", P, "kin"),
        ], {CC: {"how": "ended", "word": 1}, CCC: {"parent": P, "how": "runs", "news": "on", "held": ("hang",)}})

    def test_one_that_was_an_orphan_is_not_called(self):
        house = led((), Node((("send", "halt", "self"),)))
        run(house, CC)
        # The group of the leader is an orphan from its beginning on.
        self.takes(house, CC, [("struck", CC, "halt"), ("fell", C, "kin")],
                   {CC: {"how": "stopped", "news": "stopped", "held": ()}})

    def test_an_orphan_stays_uncalled_by_later_steps(self):
        house = led((("group", 0, "new"), ("end", 1)), Node((("fork",), ("send", "halt", "self"))))
        run(house, C, C)
        self.assertEqual(run(house, CC, CC, CC, CCC), (
            ("fork", CC, CCC), ("sent", CC, "halt"), ("held", CC, "halt"), ("struck", CC, "halt"), ("fell", P, "kin"),
            ("sent", CCC, "halt"), ("held", CCC, "halt"),
        ))
        self.has(house, CC, how="stopped", group=CC)

    def test_an_orphan_in_which_none_is_stopped_is_not_called(self):
        house = led((("group", 0, "new"), ("end", 1)), Node(()))
        run(house, C)
        self.assertEqual(run(house, C), (("ended", C, 1), ("taken", CC, P), ("fell", P, "kin")))

    def test_a_session_row_makes_orphans(self):
        house = grown(Node((), Node((("group", 0, "new"), ("session",)), Node((("send", "halt", "self"),)))))
        run(house, C, CC, CC)
        self.takes(house, C, [("session", C), ("held", CC, "hang"), ("on", CC), ("fell", C, "kin")], {
            C: {"row": 7, "session": C, "group": C}, ("front", C): None, ("typed", C): (),
            CC: {"how": "runs", "news": "on", "held": ("hang",)},
        })

    def test_a_group_row_makes_an_orphan(self):
        # CCC stands in the leader's group, and its parent in another one, until that one comes back.
        house = led((("group", 0, "new"), ("group", 0, "mine")), Node((), Node((("send", "halt", "self"),))))
        run(house, C, CCC, CCC)
        self.has(house, CC, group=CC)
        self.has(house, CCC, group=C, how="stopped")
        self.takes(house, C, [
            ("group", CC, C), ("held", C, "hang"), ("held", CC, "hang"), ("held", CCC, "hang"),
            ("fell", C, "on"), ("fell", CC, "on"), ("on", CCC), ("fell", CC, "kin"),
        ], {
            C: {"row": 8, "held": ("hang",)}, CC: {"group": C, "held": ("hang",)},
            CCC: {"held": ("hang",), "how": "runs", "news": "on"},
        })

    def test_bare_goes_ahead_of_the_orphans(self):
        # CC is alone in front; as it ends, a group below becomes an orphan, in which one is stopped.
        house = grown(Node((), Node((("group", 0, "new"), ("front", 0)), Node(
            (("group", 0, "new"), ("end", 1)), Node((("send", "halt", "self"),)),
        ), ahead=SESSION)))
        run(house, C, C, CC, CCC, CCC)
        self.assertEqual(house.front(C), CC)
        self.takes(house, CC, [
            ("ended", CC, 1), ("taken", CCC, P), ("fell", C, "kin"), ("bare", C),
            ("held", CCC, "hang"), ("on", CCC), ("fell", P, "kin"),
        ], {
            CC: {"how": "ended", "word": 1}, ("front", C): None,
            CCC: {"parent": P, "held": ("hang",), "how": "runs", "news": "on"},
        })


if __name__ == "__main__":
    unittest.main()
