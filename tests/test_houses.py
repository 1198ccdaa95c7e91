"""Houses: how they begin, what is refused, twins, equality, names and sessions."""

import unittest

from anything import anything, frozen
from kinsignals.errors import NoBook, NoEntry, NoOne, NoSession, NoTitle, NoTyped
from kinsignals.houses import House
from scenes import Case, Node, book_of, grown, house_of, picture, run

BOOK = book_of(a=(("fork",), ("end", 1)), b=(("say", 2),), c=(("pause",),))
FIRST = (None, (), (), "runs", None, "a", 0, 0, (), (), (), (), 0, False, False, None)


def right_typed(thing):
    """Of the things of anything(): whether it is what may be typed."""
    return thing.__class__ is tuple and thing in ((), (0,)) and not any(part.__class__ is bool for part in thing)


class Refused(Case):
    def test_no_book(self):
        for thing in anything():
            ahead = frozen(thing)
            with self.subTest(thing=thing):
                self.assertRaises(NoBook, House, thing, "a")
                self.assertEqual(frozen(thing), ahead)

    def test_no_book_is_first_whatever_the_others_are(self):
        for thing in anything():
            with self.subTest(thing=thing):
                self.assertRaises(NoBook, House, (), thing)
                self.assertRaises(NoBook, House, list(BOOK), thing, typed=thing)
                self.assertRaises(NoBook, House, thing, "zz", typed=None)

    def test_a_book_that_is_nearly_one(self):
        rows = (("fork",),)
        for book in (
            (), list(BOOK), BOOK[::-1], BOOK + BOOK, (("a", ()),), (("a", rows), ("a", rows)), (("a", (("goto", 1),)),),
            (("A", rows),), (("a", [("fork",)]),), (["a", rows],), ("a", rows),
        ):
            with self.subTest(book=book):
                self.assertRaises(NoBook, House, book, "a")

    def test_no_title(self):
        for thing in anything():
            if thing.__class__ is str and thing == "a":
                continue
            for typed in ((), (1, 2), None, [1], (100,)):
                with self.subTest(thing=thing, typed=typed):
                    with self.assertRaises(NoTitle) as caught:
                        House(BOOK, thing, typed=typed)
                    self.assertIs(caught.exception.title, thing)

    def test_titles_that_no_program_has(self):
        for title in ("d", "aa", "", "A", "a ", "abcdefghi"):
            with self.assertRaises(NoTitle) as caught:
                House(BOOK, title)
            self.assertEqual(caught.exception.title, title)

    def test_no_typed(self):
        for thing in anything():
            ahead = frozen(thing)
            with self.subTest(thing=thing):
                if right_typed(thing):
                    self.assertEqual(House(BOOK, "a", typed=thing).typed(()), thing)
                else:
                    self.assertRaises(NoTyped, House, BOOK, "a", typed=thing)
                self.assertEqual(frozen(thing), ahead)

    def test_no_typed_of_anything_within(self):
        for thing in anything():
            right = thing.__class__ is int and 0 <= thing <= 99
            for typed in ((thing,), (5, thing), (thing, 5)):
                with self.subTest(typed=typed):
                    if right:
                        self.assertEqual(House(BOOK, "a", typed=typed).typed(()), typed)
                    else:
                        self.assertRaises(NoTyped, House, BOOK, "a", typed=typed)

    def test_typed_is_handed_in_by_its_name_alone(self):
        self.assertRaises(TypeError, House, BOOK, "a", ())

    def test_bounds_of_typed(self):
        self.assertEqual(House(BOOK, "a", typed=(0, 99, 0)).typed(()), (0, 99, 0))
        for typed in ((-1,), (100,), (0, 100), (True,), (False,), [0], (0, None), ("0",), ((0,),)):
            with self.subTest(typed=typed):
                self.assertRaises(NoTyped, House, BOOK, "a", typed=typed)


class Beginning(Case):
    def test_the_first_one(self):
        house = House(BOOK, "a")
        self.assertEqual(house.person(()), FIRST)
        self.assertEqual(house.names(), ((),))
        self.assertEqual(house.sessions(), ((),))
        self.assertEqual(house.front(()), ())
        self.assertEqual(house.typed(()), ())
        self.assertEqual(len(house), 1)

    def test_the_kinds_of_the_sixteen_things(self):
        things = House(BOOK, "a").person(())
        self.assertIs(things.__class__, tuple)
        kinds = [None.__class__, tuple, tuple, str, None.__class__, str, int, int, tuple, tuple, tuple, tuple, int]
        self.assertEqual([thing.__class__ for thing in things], [*kinds, bool, bool, None.__class__])

    def test_the_kinds_of_what_else_is_told(self):
        house = House(BOOK, "a", typed=(1,))
        for told in (house.names(), house.names()[0], house.sessions(), house.front(()), house.typed(())):
            self.assertIs(told.__class__, tuple)
        self.assertIs(len(house).__class__, int)
        self.assertIs(str(house).__class__, str)

    def test_each_program_can_be_the_first_one_s(self):
        for title in "abc":
            self.assertEqual(House(BOOK, title).person(()), (*FIRST[:5], title, *FIRST[6:]))

    def test_what_is_typed_at_first(self):
        self.assertEqual(House(BOOK, "b", typed=(3, 0, 99)).typed(()), (3, 0, 99))
        self.assertEqual(House(BOOK, "b", typed=()).typed(()), ())

    def test_what_was_told_may_be_handed_in_again(self):
        house = House(BOOK, "a", typed=(3, 4))
        self.assertEqual(House(BOOK, "a", typed=house.typed(())), house)
        self.assertEqual(house.front(house.front(())), ())
        self.assertEqual(house.person(house.names()[0]), FIRST)


class Asked(Case):
    """person, front, typed and step, of anything."""

    def setUp(self):
        # The second child leads a session of its own, and the first one of all is in front no more.
        self.house = house_of(
            ("fork",), ("if", 0, "first"), ("fork",), ("if", 0, "second"), ("pause",),
            "first", ("pause",), "second", ("session",), typed=(7,),
        )
        run(self.house, (), (), (), (0,), (1,), (1,))
        self.assertEqual(self.house.names(), ((), (0,), (1,)))
        self.assertEqual(self.house.sessions(), ((), (1,)))

    def refused(self, kind, value, asked, thing):
        ahead, seen = frozen(thing), picture(self.house)
        with self.subTest(thing=thing):
            with self.assertRaises(kind) as caught:
                asked(thing)
            if value:
                self.assertIs(getattr(caught.exception, value), thing)
            self.assertEqual(frozen(thing), ahead)
            self.assertEqual(picture(self.house), seen)

    def test_person_of_anything(self):
        for thing in [*anything(), (2,), (0, 0), (-1,), (1, None), ("0",), ((0,),), [0], [], (0,) * 9, (0, True)]:
            if thing.__class__ is tuple and thing in ((), (0,)):
                self.assertEqual(len(self.house.person(thing)), 16)
            else:
                self.refused(NoOne, "name", self.house.person, thing)

    def test_front_and_typed_of_anything(self):
        for thing in [*anything(), (0,), (2,), (1, 0), (-1,), ("1",), ((1,),), [1], [], (1,) * 9]:
            if thing.__class__ is tuple and thing == ():
                self.assertEqual(self.house.front(thing), ())
                self.assertEqual(self.house.typed(thing), (7,))
            else:
                self.refused(NoSession, "name", self.house.front, thing)
                self.refused(NoSession, "name", self.house.typed, thing)

    def test_a_truth_in_a_name_is_no_number(self):
        for thing in ((False,), (True,)):
            self.refused(NoOne, "name", self.house.person, thing)
            self.refused(NoSession, "name", self.house.front, thing)
            self.refused(NoSession, "name", self.house.typed, thing)
            self.refused(NoEntry, None, self.house.step, thing)
            self.refused(NoEntry, None, self.house.step, ("put", thing, 1))
            self.refused(NoEntry, None, self.house.step, ("key", thing, "on"))

    def test_step_of_anything(self):
        for thing in [*anything(), (0, -1), (0, None), ("put",), ("key", ()), ["put", (), 1], [0]]:
            if thing.__class__ is tuple and thing in ((), (0,)):
                continue
            self.refused(NoEntry, None, self.house.step, thing)

    def test_step_of_one_that_is_not_there(self):
        for name in ((2,), (0, 0), (1, 0), (99,), (0, 1, 2, 3, 4, 5, 6, 7), (0,) * 9):
            self.refused(NoOne, "name", self.house.step, name)

    def test_a_name_in_a_list(self):
        self.refused(NoEntry, None, self.house.step, [])
        self.refused(NoEntry, None, self.house.step, [0])
        self.refused(NoOne, "name", self.house.person, [0])
        self.refused(NoSession, "name", self.house.front, [1])

    def test_a_session_that_never_was(self):
        for entry in (("put", (0,), 1), ("key", (0,), "on"), ("put", (2,), 1), ("key", (1, 0), "kill")):
            seen = picture(self.house)
            with self.assertRaises(NoSession) as caught:
                self.house.step(entry)
            self.assertIs(caught.exception.name, entry[1])
            self.assertEqual(picture(self.house), seen)

    def test_anything_as_a_part_of_put_and_key(self):
        for thing in anything():
            name = thing.__class__ is tuple and thing in ((), (0,)) and not any(part is True for part in thing)
            if not name:
                self.refused(NoEntry, None, self.house.step, ("put", thing, 1))
                self.refused(NoEntry, None, self.house.step, ("key", thing, "on"))
            if not (thing.__class__ is int and 0 <= thing <= 99):
                self.refused(NoEntry, None, self.house.step, ("put", (), thing))
                self.refused(NoEntry, None, self.house.step, ("put", (9,), thing))
            if not (thing.__class__ is str and thing in ("kill", "on")):
                self.refused(NoEntry, None, self.house.step, ("key", (), thing))
                self.refused(NoEntry, None, self.house.step, ("key", (9,), thing))
            self.refused(NoEntry, None, self.house.step, (thing, (), 1))
            self.refused(NoEntry, None, self.house.step, (thing, (), "on"))
            self.refused(NoEntry, None, self.house.step, ("put", (), 1, thing))
            self.refused(NoEntry, None, self.house.step, ("key", (), "on", thing))

    def test_entries_that_are_nearly_some(self):
        for entry in (
            ("put", ()), ("key", ()), ("put", (), 100), ("put", (), -1), ("put", (), True), ("put", (), "1"),
            ("put", (), "on"), ("key", (), 1), ("key", (), "term"), ("key", (), ("on",)), ("put", None, 1),
            ("put", [], 1), ("put", "", 1), ("key", 0, "on"), ("Put", (), 1), ("type", (), 1), ("put", (-1,), 1),
            (b"put", (), 1), ("put", (), (1,)), (("put", (), 1),), ("key", (), None),
        ):
            self.refused(NoEntry, None, self.house.step, entry)

    def test_one_that_is_gone_is_no_one_but_its_session_was(self):
        house = house_of(("fork",), ("if", 0, "child"), ("wait", None, False), "child", ("session",), ("end", 3))
        run(house, (), (), (0,), (0,), (0,), ())
        self.assertEqual(house.names(), ((),))
        self.assertEqual(house.sessions(), ((), (0,)))
        self.assertIsNone(house.front((0,)))
        self.assertEqual(house.typed((0,)), ())
        self.assertRaises(NoOne, house.person, (0,))
        self.assertRaises(NoOne, house.step, (0,))
        self.takes(house, ("put", (0,), 4), [("typed", (0,), 4)], {("typed", (0,)): (4,)})


class Strange:
    """An object that says of all that it is equal to it."""

    def __eq__(self, other):
        return True

    __hash__ = None


class Twins(Case):
    def grown(self):
        house = house_of(
            ("handle", "hang", (4, ("kin",))), ("mask", ("call",)), ("fork",), ("if", 1, "parent"),
            ("session",), ("pause",), "parent", ("send", "hang", "self"), ("pause",), typed=(1, 2),
        )
        run(house, (), (), (), (), (), (0,), (0,), ("put", (0,), 9))
        self.assertEqual(self.thing(house, (), "held"), ("hang",))
        return house

    def test_a_twin_is_equal(self):
        for house in (House(BOOK, "a"), House(BOOK, "c", typed=(1,)), self.grown()):
            twin = house.twin()
            self.assertIs(twin.__class__, House)
            self.assertIsNot(twin, house)
            self.assertTrue(house == twin and twin == house)
            self.assertFalse(house != twin or twin != house)
            self.assertEqual(picture(house), picture(twin))
            self.assertEqual(str(house), str(twin))

    def test_a_twin_is_apart(self):
        for entry in ((), ("put", (), 3), ("put", (0,), 3)):
            house = self.grown()
            twin, seen = house.twin(), picture(house)
            twin.step(entry)
            self.assertEqual(picture(house), seen)
            self.assertNotEqual(house, twin)
            house.step(entry)
            self.assertEqual(house, twin)

    def test_the_house_steps_and_its_twin_stays(self):
        house = House(BOOK, "a")
        twin = house.twin()
        run(house, (), (0,), ("put", (), 1))
        self.assertEqual(twin, House(BOOK, "a"))
        self.assertNotEqual(twin, house)

    def test_a_twin_walks_as_the_house_does(self):
        house = self.grown()
        twin = house.twin()
        entries = ((), (0,), ("key", (), "hang"), (), (), (0,), ())
        self.assertEqual(run(house, *entries), run(twin, *entries))
        self.assertEqual(house, twin)

    def test_a_twin_has_all_sixteen_things(self):
        # One ended, one stopped, and one that is within a handler, a taker, changed, with news and children.
        house = grown(
            Node((("send", "halt", 1), ("send", "halt", 2), ("send", "on", 2), ("send", "hang", 2), ("send", "kill", 0)),
                 Node(()), Node((("return",),)), Node((("exec", "b"),))),
            b=(("handle", "hang", (5, ("kin",))), ("taker",), ("session",), ("fork",), ("mask", ("quit",)), ("pause",)),
        )
        run(house, (1,), *[(2,)] * 6, (), (), (1,), (2,), (), (), (), (0,), (2,), ("put", (2,), 8))
        self.has(house, (0,), how="ended", word="kill")
        self.has(house, (1,), how="stopped", last=-1, news="stopped")
        self.has(house, (2,), taker=True, changed=True, news="on", born=1, pile=((6, ("quit",)),), title="b")
        twin = house.twin()
        self.assertEqual(picture(twin), picture(house))
        self.assertEqual(twin, house)
        entries = ((0,), (1,), (2,), (2, 0), (), ("key", (2,), "quit"))
        self.assertEqual(run(twin, *entries), run(house, *entries))

    def test_a_twin_s_twin(self):
        house = self.grown()
        self.assertEqual(house.twin().twin(), house)


class Equality(Case):
    def test_same_made_twice(self):
        self.assertEqual(House(BOOK, "a"), House(BOOK, "a"))
        self.assertEqual(House(BOOK, "a", typed=(1,)), House(book_of(**dict(BOOK)), "a", typed=(1,)))

    def test_each_part_matters(self):
        house = House(BOOK, "a")
        self.assertNotEqual(house, House(BOOK, "b"))
        self.assertNotEqual(house, House(BOOK, "a", typed=(0,)))
        self.assertNotEqual(house, House(BOOK[:2], "a"))
        self.assertNotEqual(house, House((*BOOK, ("d", (("say", 2),))), "a"))
        self.assertNotEqual(House(BOOK, "a", typed=(1, 2)), House(BOOK, "a", typed=(2, 1)))

    def test_a_front_alone_matters(self):
        rows = (("fork",), ("if", 0, "c"), ("group", 0, "new"), ("front", 0), ("goto", 3), "c", ("goto", "c"))
        one, other = house_of(*rows), house_of(*rows)
        run(one, (), (), (), (), ())
        run(other, (), (), ())
        self.assertEqual(picture(one)[0], picture(other)[0])
        self.assertEqual((one.front(()), other.front(())), ((0,), ()))
        self.assertNotEqual(one, other)

    def test_a_session_alone_matters(self):
        rows = (("fork",), ("if", 0, "c"), ("wait", 0, False), ("pause",),
                "c", ("read",), ("if", 0, "e"), ("session",), "e", ("end", 0))
        one, other = house_of(*rows, typed=(0,)), house_of(*rows, typed=(1,))
        run(one, (), (), *[(0,)] * 4, ())
        run(other, (), (), *[(0,)] * 5, ())
        self.assertEqual(picture(one)[0], picture(other)[0])
        self.assertEqual((one.sessions(), other.sessions()), (((),), ((), (0,))))
        self.assertNotEqual(one, other)

    def test_equal_houses_led_to_by_other_steps(self):
        rows = (("fork",), ("if", 0, "c"), ("say", 1), ("pause",), "c", ("say", 2), ("pause",))
        one, other = house_of(*rows), house_of(*rows)
        self.assertNotEqual(run(one, (), (), (0,), (), (0,)), run(other, (), (0,), (0,), (), ()))
        self.assertEqual(one, other)
        self.assertEqual(str(one), str(other))

    def test_equal_behind_steps_that_idle(self):
        house = house_of(("pause",))
        twin = house.twin()
        run(house, (), (), ())
        self.assertEqual(house, twin)

    def test_nothing_else_is_equal_to_a_house(self):
        house = House(BOOK, "a")
        things = [*anything(), str(house), BOOK, picture(house), house.person(()), 1, [house], (house,)]
        for thing in things:
            with self.subTest(thing=thing):
                self.assertIs(house == thing, False)
                self.assertIs(thing == house, False)
                self.assertIs(house != thing, True)
        self.assertIs(house == Strange(), False)

    def test_equality_tells_a_truth(self):
        house = House(BOOK, "a")
        self.assertIs(house == house.twin(), True)
        self.assertIs(house != house.twin(), False)


class Names(Case):
    def test_names_rise_by_their_numbers(self):
        house = house_of("more", ("fork",), ("if", 0, "c"), ("goto", "more"), "c", ("fork",), ("pause",))
        run(house, *[()] * 36)
        run(house, (2,), (2,), (10,), (10,))
        names = house.names()
        self.assertEqual(names, tuple(sorted(names)))
        self.assertEqual(names, ((), (0,), (1,), (2,), (2, 0), *[(k,) for k in range(3, 11)], (10, 0), (11,)))
        self.assertEqual(len(house), 15)

    def test_len_counts_those_that_ended_until_they_are_told_of(self):
        house = house_of(("fork",), ("if", 0, "c"), ("wait", 0, False), ("pause",), "c", ("end", 4))
        lens = []
        for entry in ((), (0,), (0,), (), ()):
            house.step(entry)
            lens.append(len(house))
        self.assertEqual(lens, [2, 2, 2, 2, 1])

    def test_sessions_rise_and_stay(self):
        house = house_of("more", ("fork",), ("if", 0, "c"), ("goto", "more"), "c", ("session",), ("end", 0))
        run(house, *[()] * 36)
        run(house, *[(10,)] * 3, *[(2,)] * 3, *[(0,)] * 2)
        self.assertEqual(house.sessions(), ((), (0,), (2,), (10,)))
        self.assertEqual([house.front(name) for name in house.sessions()], [(), None, None, None])
        self.assertEqual([house.typed(name) for name in house.sessions()], [()] * 4)


if __name__ == "__main__":
    unittest.main()
