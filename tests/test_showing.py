"""Texts of books and of houses."""

import unittest

from anything import anything
from kinsignals.errors import NoBook
from kinsignals.houses import House
from kinsignals.showing import show_book
from scenes import Case, Node, book_of, grown, house_of, parted, run

P, C = (), (0,)
LOOSE = ("on", "hang", "quit", "call", "kin", "rest", "reads")

# Each row of a program with its text.
ROWS = (
    (("fork",), "fork"),
    (("exec", "abcdefgh"), "exec abcdefgh"),
    (("end", 0), "end 0"),
    (("end", 99), "end 99"),
    (("wait", None, False), "wait any"),
    (("wait", None, True), "wait any stops"),
    (("wait", 0, False), "wait 0"),
    (("wait", 12, True), "wait 12 stops"),
    (("pause",), "pause"),
    (("read",), "read"),
    (("send", "kill", "self"), "send kill self"),
    (("send", "halt", "parent"), "send halt parent"),
    (("send", "reads", "group"), "send reads group"),
    (("send", "kin", 0), "send kin 0"),
    (("send", "on", 10), "send on 10"),
    (("mask", ()), "mask -"),
    (("mask", ("on",)), "mask on"),
    (("mask", LOOSE), "mask on,hang,quit,call,kin,rest,reads"),
    (("unmask", ()), "unmask -"),
    (("unmask", ("hang", "kin")), "unmask hang,kin"),
    (("handle", "on", "plain"), "handle on plain"),
    (("handle", "reads", "ignore"), "handle reads ignore"),
    (("handle", "call", (0, ())), "handle call 0 -"),
    (("handle", "rest", (10, ("on", "rest"))), "handle rest 10 on,rest"),
    (("return",), "return"),
    (("session",), "session"),
    (("group", "self", "new"), "group self new"),
    (("group", 3, "mine"), "group 3 mine"),
    (("front", "self"), "front self"),
    (("front", 11), "front 11"),
    (("taker",), "taker"),
    (("say", 0), "say 0"),
    (("say", 42), "say 42"),
    (("goto", 0), "goto 0"),
    (("goto", 33), "goto 33"),
    (("if", 0, 0), "if 0 0"),
    (("if", -1, 7), "if -1 7"),
    (("if", -999999999, 1), "if -999999999 1"),
    (("if", 300, 12), "if 300 12"),
)


class Books(Case):
    def test_all_rows(self):
        book = (("a", tuple(row for row, text in ROWS)),)
        self.assertEqual(show_book(book), "\n".join(["program a", *[text for row, text in ROWS]]))

    def test_each_row_alone(self):
        for row, text in ROWS:
            filler = (("pause",),) * 40
            book = (("prog", (row, *filler)),)
            self.assertEqual(show_book(book).split("\n")[:2], ["program prog", text])

    def test_one_row(self):
        self.assertEqual(show_book((("a", (("fork",),)),)), "program a\nfork")

    def test_several_programs(self):
        self.assertEqual(
            show_book(book_of(a=(("fork",), ("end", 1)), bc=(("say", 2),), zzzzzzzz=(("goto", 0),))),
            "program a\nfork\nend 1\nprogram bc\nsay 2\nprogram zzzzzzzz\ngoto 0",
        )

    def test_as_much_as_is_promised(self):
        rows = tuple(("goto", at) for at in range(40))
        book = tuple((letter, rows) for letter in "abcdefghijklmnop")
        text = show_book(book)
        self.assertEqual(len(text.split("\n")), 16 * 41)
        self.assertEqual(text.count("program"), 16)

    def test_it_is_a_plain_text(self):
        text = show_book((("a", tuple(row for row, text in ROWS)),))
        self.assertIs(text.__class__, str)
        self.assertNotIn("  ", text)
        self.assertRegex(text, r"\A[ -~\n]+\Z")
        for row in text.split("\n"):
            self.assertEqual(row, row.strip())

    def test_what_is_no_book(self):
        for thing in anything():
            with self.subTest(thing=thing):
                self.assertRaises(NoBook, show_book, thing)


class Houses(Case):
    def shows(self, house, *rows):
        self.assertEqual(str(house), "\n".join(rows))

    def test_at_the_beginning(self):
        self.shows(house_of(("fork",)), "session / / -", "person / ~ / / runs ~ a 0 0 - - - - 0 no no ~")
        book = book_of(a=(("fork",),), prog=(("say", 1),))
        self.shows(House(book, "prog", typed=(0, 7, 99)),
                   "session / / 0,7,99", "person / ~ / / runs ~ prog 0 0 - - - - 0 no no ~")

    def test_the_rows_hang_on_no_program_but_the_running_ones(self):
        self.assertEqual(str(house_of(("fork",))), str(house_of(("say", 1))))

    def test_names_parents_and_lasts(self):
        house = house_of(("fork",), ("fork",), ("return",))
        run(house, P, C, C, (0, 0))
        self.shows(
            house,
            "session / / -",
            "person / ~ / / runs ~ a 1 1 - - - - 1 no no ~",
            "person 0 / / / runs ~ a 3 -1 - - - - 1 no no ~",
            "person 0.0 0 / / runs ~ a 3 -1 - - - - 0 no no ~",
        )

    def test_ten_children_and_more(self):
        house = house_of(*[("fork",)] * 12)
        run(house, *[P] * 12, (2,), (10,))
        rows = str(house).split("\n")
        self.assertEqual([row.split()[1] for row in rows[1:]],
                         ["/", "0", "1", "2", "2.0", "3", "4", "5", "6", "7", "8", "9", "10", "10.0", "11"])
        self.assertEqual(rows[1], "person / ~ / / runs ~ a 12 12 - - - - 12 no no ~")
        self.assertEqual(rows[13], "person 10 / / / runs ~ a 12 1 - - - - 1 no no ~")
        self.assertEqual(rows[14], "person 10.0 10 / / runs ~ a 12 0 - - - - 0 no no ~")

    def test_sessions_fronts_and_what_is_typed(self):
        house = grown(Node((), *[Node(()) for _ in range(2)], Node((("front", "self"),), ahead=(("session",),))), (5,))
        run(house, ("put", (2,), 10), ("put", (2,), 0))
        self.assertEqual(str(house).split("\n")[:2], ["session / / 5", "session 2 ~ 10,0"])
        run(house, (2,))
        self.assertEqual(str(house).split("\n")[:2], ["session / / 5", "session 2 2 10,0"])
        self.assertEqual(str(house).split("\n")[5], "person 2 / 2 2 runs ~ a 11 0 - - - - 0 no no ~")

    def test_sessions_rise(self):
        house = grown(Node((), *[Node((), ahead=(("session",),)) for _ in range(11)]))
        self.assertEqual([row.split()[1] for row in str(house).split("\n")[:12]], ["/", *map(str, range(11))])

    def test_ends_and_news(self):
        house = grown(Node((("send", "halt", 0), ("send", "on", 0), ("send", "kill", 1)), Node(()), Node(()),
                           Node((("end", 77),))))
        run(house, P, (0,), (2,), P, P, (1,))
        rows = str(house).split("\n")
        self.assertEqual(rows[2:], [
            "person 0 / / / runs ~ a 10 0 - - - - 0 no no on",
            "person 1 / / / ended kill a 11 0 - - - - 0 no no ~",
            "person 2 / / / ended 77 a 12 0 - - - - 0 no no ~",
        ])
        house = parted((("send", "halt", 0),), ())
        run(house, P, C)
        self.assertEqual(str(house).split("\n")[2], "person 0 / / / stopped ~ a 4 0 - - - - 0 no no stopped")

    def test_masks_handlers_piles_and_truths(self):
        house = parted((("send", "call", 0), ("send", "hang", 0), ("send", "quit", 0), ("send", "rest", 0)), (
            ("exec", "b"),
        ), b=(
            ("handle", "reads", "ignore"), ("handle", "call", (6, ())), ("handle", "hang", (5, ("kin", "reads"))),
            ("mask", ("quit", "rest")), ("taker",), ("pause",), ("pause",),
        ))
        run(house, *[C] * 6, P, C)
        self.assertEqual(
            str(house).split("\n")[2],
            "person 0 / / / runs ~ b 6 0 quit,call,rest - hang=5:kin,reads;call=6:-;reads=ignore 6:quit,rest 0 yes yes ~",
        )
        run(house, P, C, P, P)
        self.assertEqual(
            str(house).split("\n")[2],
            "person 0 / / / runs ~ b 5 0 hang,quit,call,kin,rest,reads quit,rest "
            "hang=5:kin,reads;call=6:-;reads=ignore 6:quit,rest;7:quit,call,rest 0 yes yes ~",
        )

    def test_an_empty_mask_in_a_pile(self):
        house = house_of(("handle", "call", (2, ())), ("send", "call", "self"), ("pause",))
        run(house, P, P, P)
        self.assertEqual(str(house).split("\n")[1], "person / ~ / / runs ~ a 2 0 call - call=2:- 3:- 0 no no ~")

    def test_groups(self):
        house = grown(Node((("group", 0, "new"), ("front", 0)), Node((), Node(()))))
        run(house, P, P)
        rows = str(house).split("\n")
        self.assertEqual(rows[0], "session / 0 -")
        self.assertEqual(rows[2], "person 0 / 0 / runs ~ a 7 1 - - - - 1 no no ~")
        self.assertEqual(rows[3], "person 0.0 0 / / runs ~ a 8 0 - - - - 0 no no ~")

    def test_each_row_has_its_words(self):
        house = house_of(*[("fork",)] * 12)
        run(house, *[P] * 12)
        for row in str(house).split("\n")[1:]:
            words = row.split(" ")
            self.assertEqual(len(words), 18)
            self.assertNotIn("", words)
        self.assertFalse(str(house).endswith("\n"))


if __name__ == "__main__":
    unittest.main()
