"""is_book: programs, titles, and anything else."""

import unittest

from anything import anything, frozen
from kinsignals.programs import is_book

ROWS = (("fork",), ("goto", 0))
EVERY_ROW = (
    ("fork",), ("exec", "other"), ("end", 99), ("wait", 0, True), ("pause",), ("read",), ("send", "kill", "group"),
    ("mask", ("on", "reads")), ("unmask", ()), ("handle", "quit", (17, ("quit",))), ("return",), ("session",),
    ("group", 0, "mine"), ("front", "self"), ("taker",), ("say", 0), ("goto", 17), ("if", -1, 0),
)


def listed(thing):
    """The thing, once for each tuple in it, with that tuple as a list instead."""
    if not isinstance(thing, tuple):
        return []
    inner = [
        (*thing[:at], wrong, *thing[at + 1:]) for at, part in enumerate(thing) for wrong in listed(part)
    ]
    return [list(thing), *inner]


class Case(unittest.TestCase):
    def holds(self, thing):
        with self.subTest(thing=thing):
            self.assertIs(is_book(thing), True)

    def fails(self, thing):
        with self.subTest(thing=thing):
            self.assertIs(is_book(thing), False)


class Books(Case):
    def test_one_program(self):
        self.holds((("a", (("fork",),)),))
        self.holds((("a", EVERY_ROW),))

    def test_several_programs(self):
        self.holds((("a", ROWS), ("b", ROWS)))
        self.holds((("a", EVERY_ROW), ("aa", ROWS), ("ab", ROWS), ("b", EVERY_ROW)))

    def test_as_much_as_is_promised(self):
        rows = tuple(("goto", at) for at in range(40))
        self.holds(tuple((letter, rows) for letter in "abcdefghijklmnop"))

    def test_no_program(self):
        self.fails(())

    def test_a_program_alone_is_no_book(self):
        self.fails(("a", ROWS))

    def test_titles_alike(self):
        self.fails((("a", ROWS), ("a", ROWS)))
        self.fails((("a", (("fork",),)), ("a", (("pause",),))))
        self.fails((("a", ROWS), ("b", ROWS), ("b", ROWS), ("c", ROWS)))
        self.fails((("a", ROWS), ("b", ROWS), ("a", ROWS)))

    def test_titles_that_do_not_rise(self):
        self.fails((("b", ROWS), ("a", ROWS)))
        self.fails((("aa", ROWS), ("a", ROWS)))
        self.fails((("b", ROWS), ("aa", ROWS)))
        self.fails((("a", ROWS), ("c", ROWS), ("b", ROWS)))

    def test_the_titles_alone_say_what_rises(self):
        self.holds((("a", (("taker",),)), ("b", (("fork",),))))

    def test_a_wrong_program_at_any_place(self):
        for wrong in (("b", ()), ("B", ROWS), ("b",), ("b", (("goto", 1),)), None, "b", 0):
            self.fails((wrong,))
            self.fails((wrong, ("c", ROWS)))
            self.fails((("a", ROWS), wrong))
            self.fails((("a", ROWS), wrong, ("c", ROWS)))


class Programs(Case):
    def test_titles_of_1_and_8_letters(self):
        for title in ("a", "z", "abcdefgh", "zzzzzzzz"):
            self.holds(((title, ROWS),))

    def test_what_is_no_title(self):
        for title in (
            "", "abcdefghi", "A", "aA", "Aa", "a1", "1", "a b", " ", "a-", "a_b", "a.b", "a\n", "\n", "`", "{", "\u00e9",
            b"a", ("a",), ["a"], None, 0, True,
        ):
            self.fails(((title, ROWS),))
            self.fails((("a", ROWS), (title, ROWS)))

    def test_no_rows(self):
        self.fails((("a", ()),))

    def test_a_row_in_the_place_of_the_rows(self):
        self.fails((("a", ("fork",)),))

    def test_parts_more_and_fewer(self):
        self.fails((("a",),))
        self.fails(((),))
        self.fails((("a", ROWS, ROWS),))
        self.fails((("a", ROWS, None),))
        self.fails(((ROWS, "a"),))

    def test_a_wrong_row_at_any_place(self):
        for wrong in (("end", 100), ("forks",), (), None, "fork", ("fork", 0)):
            self.fails((("a", (wrong,)),))
            self.fails((("a", (wrong, ("fork",))),))
            self.fails((("a", (("fork",), wrong)),))
            self.fails((("a", (("fork",), wrong, ("fork",))),))

    def test_a_row_s_number_is_of_its_own_program(self):
        long = (("fork",), ("fork",), ("fork",))
        for build in (
            lambda r: ("goto", r),
            lambda r: ("if", 0, r),
            lambda r: ("handle", "on", (r, ())),
        ):
            self.holds((("a", long), ("b", (build(0),))))
            self.holds((("a", long), ("b", (build(1), ("fork",)))))
            self.holds((("a", (build(2), ("fork",), ("fork",))), ("b", (("fork",),))))
            self.fails((("a", long), ("b", (build(1),))))
            self.fails((("a", (build(1),)), ("b", long)))
            self.fails((("a", long), ("b", (("fork",), build(2)))))
            self.fails((("a", (build(3), *long[1:])),))

    def test_exec_of_a_title_that_no_program_has(self):
        self.holds((("a", (("exec", "none"),)),))


class Anything(Case):
    def check(self, build):
        for thing in anything():
            handed = build(thing)
            ahead = frozen(handed)
            answer = is_book(handed)
            self.assertIs(answer.__class__, bool, handed)
            self.assertEqual(frozen(handed), ahead)

    def test_a_list_in_the_place_of_any_tuple(self):
        book = (("a", EVERY_ROW), ("b", ROWS))
        self.holds(book)
        wrongs = listed(book)
        self.assertEqual(len(wrongs), 1 + 2 + 2 + len(EVERY_ROW) + len(ROWS) + 4)
        for wrong in wrongs:
            self.fails(wrong)

    def test_as_the_whole(self):
        for thing in anything():
            self.fails(thing)

    def test_as_a_program(self):
        for thing in anything():
            self.fails((thing,))
            self.fails((("a", ROWS), thing))
            self.fails((thing, ("zzz", ROWS)))

    def test_as_a_title(self):
        titles = ("a", "self", "fork", "plain", "kill", "on", "zz")
        for thing in anything():
            with self.subTest(thing=thing):
                self.assertIs(is_book(((thing, ROWS),)), thing.__class__ is str and thing in titles)

    def test_as_the_rows(self):
        for thing in anything():
            with self.subTest(thing=thing):
                self.assertIs(is_book((("a", thing),)), thing.__class__ is tuple and thing == (("fork",),))

    def test_as_a_row(self):
        for thing in anything():
            right = thing.__class__ is tuple and thing == ("fork",)
            with self.subTest(thing=thing):
                self.assertIs(is_book((("a", (thing,)),)), right)
                self.assertIs(is_book((("a", (("fork",), thing)),)), right)

    def test_nothing_handed_in_is_changed(self):
        self.check(lambda thing: thing)
        self.check(lambda thing: (thing,))
        self.check(lambda thing: [("a", ROWS), thing])
        self.check(lambda thing: ((thing, ROWS),))
        self.check(lambda thing: (("a", thing),))
        self.check(lambda thing: (("a", (thing,)),))
        self.check(lambda thing: (("a", [thing]),))

    def test_as_a_part_of_a_row(self):
        for row in EVERY_ROW:
            for at in range(len(row)):
                self.check(lambda thing: (("a", ((*row[:at], thing, *row[at + 1:]),)),))


if __name__ == "__main__":
    unittest.main()
