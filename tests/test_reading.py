"""Books read from their texts: read_book."""

import random
import unittest

from anything import anything, frozen
from chances import some_house
from kinsignals.errors import KinError, NoBook, NoText
from kinsignals.programs import is_book
from kinsignals.reading import read_book
from kinsignals.showing import show_book

SIGNALS = ("kill", "halt", "on", "hang", "quit", "call", "kin", "rest", "reads")

# A program of ten rows, so that rows 0 to 9 may be called; row 1 is the one that is looked at.
AHEAD = "program a\n"
BEHIND = "\nfork" * 9

# Each row that a text can have, and what it is.
ROWS = {
    "fork": ("fork",),
    "exec b": ("exec", "b"),
    "exec abcdefgh": ("exec", "abcdefgh"),
    "end 0": ("end", 0),
    "end 99": ("end", 99),
    "wait any": ("wait", None, False),
    "wait any stops": ("wait", None, True),
    "wait 0": ("wait", 0, False),
    "wait 7 stops": ("wait", 7, True),
    "wait 999999999": ("wait", 999999999, False),
    "pause": ("pause",),
    "read": ("read",),
    "send on self": ("send", "on", "self"),
    "send kill parent": ("send", "kill", "parent"),
    "send halt group": ("send", "halt", "group"),
    "send call 0": ("send", "call", 0),
    "send call 123456789": ("send", "call", 123456789),
    "mask -": ("mask", ()),
    "mask call": ("mask", ("call",)),
    "mask on,hang,quit,call,kin,rest,reads": ("mask", SIGNALS[2:]),
    "unmask -": ("unmask", ()),
    "unmask quit,reads": ("unmask", ("quit", "reads")),
    "handle call plain": ("handle", "call", "plain"),
    "handle kin ignore": ("handle", "kin", "ignore"),
    "handle on 0 -": ("handle", "on", (0, ())),
    "handle on 9 on,rest": ("handle", "on", (9, ("on", "rest"))),
    "return": ("return",),
    "session": ("session",),
    "group self new": ("group", "self", "new"),
    "group self mine": ("group", "self", "mine"),
    "group 3 new": ("group", 3, "new"),
    "group 400000000 mine": ("group", 400000000, "mine"),
    "front self": ("front", "self"),
    "front 12": ("front", 12),
    "taker": ("taker",),
    "say 0": ("say", 0),
    "say 45": ("say", 45),
    "goto 0": ("goto", 0),
    "goto 9": ("goto", 9),
    "if 0 0": ("if", 0, 0),
    "if 5 9": ("if", 5, 9),
    "if -1 3": ("if", -1, 3),
    "if 999999999 1": ("if", 999999999, 1),
    "if -999999999 1": ("if", -999999999, 1),
}

# Rows of no form, beside those that come of the rows above by a word more or less and by blanks.
WRONG_ROWS = [
    "", " ", "  ", "-", "~", "/", "a", "Fork", "FORK", "fork;", "fork ;", "forks", "program", "program a b", "program 1",
    "program A", "program -", "program a1", "program a-b", "program  a", "program a ", " program a", "programs a", "end", "end 1 2",
    "exec", "exec 1", "exec A", "exec aB", "exec a.b", "exec a b", "exec -", "exec ~", "exec a1",
    "end -1", "end -0", "end +1", "end 01", "end 00", "end 1.0", "end a", "end ~", "end -", "end 1000000000", "end " + "1" * 4500,
    "end 0x1", "end 1_0", "end 1,0", "end " + "0" * 10, "end /", "end no",
    "say -1", "say 007", "say 1234567890", "say -", "say yes",
    "wait", "wait all", "wait None", "wait -", "wait ~", "wait -1", "wait 01", "wait any stop", "wait stops", "wait stops any",
    "wait any stops stops", "wait any any", "wait 0 0", "wait 0 no", "wait 0 False", "wait 1234567890", "wait 0.1", "wait /",
    "pause 0", "read 1", "read -", "return 0", "session 0", "session /", "taker yes",
    "send", "send call", "send self", "send self call", "send 0 call", "send calls self", "send call,hang self", "send - self",
    "send call me", "send call -1", "send call -", "send call 01", "send call 1234567890", "send call children", "send Call self",
    "send call 0.1", "send call /", "send call self self",
    "mask", "mask  ", "mask ~", "mask ()", "mask call hang", "mask call,", "mask ,call", "mask hang,,call", "mask ,", "mask calls",
    "mask call;hang", "mask -,call", "mask -call", "mask hang, call", "mask 0", "mask any",
    "mask kin,off", "mask kin,kin,", "mask ,kin,on", "mask kin,,on", "mask kin,-", "mask kin,On", "mask kin, on", "mask kin;on",
    "unmask", "unmask call,", "unmask ~", "unmask call hang", "unmask reads,rests", "unmask reads,,rest",
    "handle", "handle call", "handle call default", "handle call plain -", "handle call ignore -", "handle call plain plain",
    "handle call 0", "handle call - 0", "handle call 0 ~", "handle call 0 kin,off", "handle call 0 kin,,on", "handle call 0 -,-",
    "handle call 0 call,", "handle call 01 -", "handle call -1 -", "handle call 1234567890 -", "handle call a -", "handle calls plain",
    "handle - plain", "handle call,hang plain", "handle plain call", "handle call 0:-", "handle call 0 - -", "handle 0 call -",
    "group", "group self", "group new", "group new self", "group self old", "group self 0", "group parent new", "group -1 new",
    "group 01 mine", "group 1234567890 new", "group - new", "group self -", "group self new new", "group any new",
    "front", "front parent", "front new", "front -1", "front -", "front ~", "front 00", "front 1234567890", "front 0.0", "front self 0",
    "goto", "goto -1", "goto -", "goto 01", "goto 1234567890", "goto a", "goto 1 2", "goto " + "9" * 5000,
    "if", "if 1", "if 1 2 3", "if -0 1", "if 1 -1", "if --1 1", "if - 1", "if -01 1", "if 01 1", "if +1 1", "if a 1", "if ~ 1",
    "if 1234567890 1", "if -1234567890 1", "if 1 01", "if 1- 1", "if -a 1", "if " + "-" + "1" * 4400 + " 1", "if 1 1234567890",
]

# Rows that have their form, with signals turned about or twice.
TURNED_ROWS = [
    "mask kin,on", "mask call,call", "mask call,hang", "mask on,hang,on", "mask hang,call,hang", "mask on,on,hang", "mask on,hang,hang",
    "mask reads,rest,kin,call,quit,hang,on", "mask on,kill", "mask kill,kill", "mask halt,kill", "mask " + ",".join(["kin"] * 40),
    "unmask reads,rest", "unmask rest,kin", "unmask call,call", "unmask on,halt",
    "handle on 0 call,call", "handle call 0 kin,on", "handle call 0 call,hang", "handle call 0 on,hang,on", "handle call 0 on,kill",
    "handle kill 0 kin,on", "handle call 10 kin,on",
]


def blanks_about(row):
    yield " " + row
    yield row + " "
    yield row + "  "
    if " " in row:
        yield row.replace(" ", "  ", 1)


class Reads(unittest.TestCase):
    def reads(self, text, book):
        """The text is read as just this book, to the kind of each part."""
        told = read_book(text)
        self.assertEqual(repr(told), repr(book))
        self.assertTrue(is_book(told))

    def test_each_row(self):
        for line, row in ROWS.items():
            with self.subTest(line=line):
                book = (("a", (row, *[("fork",)] * 9)),)
                self.reads(AHEAD + line + BEHIND, book)
                self.assertEqual(show_book(book), AHEAD + line + BEHIND)

    def test_one_row_alone(self):
        self.reads("program a\nfork", (("a", (("fork",),)),))

    def test_several_programs(self):
        text = "program a\nfork\nexec b\nprogram abcdefgh\nend 0\nprogram b\ngoto 1\ngoto 0\nprogram fork\nfork\nprogram program\nread"
        self.reads(text, (
            ("a", (("fork",), ("exec", "b"))),
            ("abcdefgh", (("end", 0),)),
            ("b", (("goto", 1), ("goto", 0))),
            ("fork", (("fork",),)),
            ("program", (("read",),)),
        ))

    def test_a_large_one(self):
        titles = "abcdefghijklmnop"
        book = tuple((title, (("if", -999999999, 39), ("mask", SIGNALS[2:]), *[("say", 7)] * 38)) for title in titles)
        self.reads(show_book(book), book)

    def test_what_is_written_is_read_by_many_books(self):
        for seed in range(300):
            book = some_house(random.Random(f"read {seed}")).book
            self.reads(show_book(book), book)
            self.assertEqual(show_book(read_book(show_book(book))), show_book(book))


class Refused(unittest.TestCase):
    def refuses(self, text, row):
        """Refused with NoText at this row, or with NoBook where row is None."""
        with self.subTest(text=text[:60] if text.__class__ is str else text):
            with self.assertRaises(KinError) as caught:
                read_book(text)
            error = caught.exception
            self.assertIs(error.__class__, NoBook if row is None else NoText)
            if row is not None:
                self.assertEqual(repr(error.row), repr(row))

    def test_rows_of_no_form(self):
        for row in WRONG_ROWS:
            self.refuses(AHEAD + row + BEHIND, 1)
            self.refuses(AHEAD + "fork\n" + row, 2)
            self.refuses(row, 0)

    def test_a_word_too_many_or_too_few_and_blanks(self):
        for row in ROWS:
            for wrong in blanks_about(row):
                self.refuses(AHEAD + wrong + BEHIND, 1)
            longer = row + " 0"
            if row.split()[0] not in ("wait", "handle") or len(longer.split()) > 4:
                self.refuses(AHEAD + longer + BEHIND, 1)
            self.refuses(AHEAD + row + " stops stops" + BEHIND, 1)
            shorter = row.rpartition(" ")[0]
            # A wait is one with stops and without.
            if not row.endswith(" stops"):
                self.refuses(AHEAD + shorter + BEHIND, 1)
            self.refuses(AHEAD + row.replace(" ", "\t") + "\t" + BEHIND, 1)
            self.refuses(AHEAD + row.upper() + BEHIND, 1)

    def test_the_heading(self):
        for row in ("program", "program ", "program A", "program a a", "program 0", "program a.", " program a", "program  a", "Program a"):
            self.refuses(row + "\nfork", 0)
            self.refuses("program a\nfork\n" + row + "\nfork", 2)

    def test_rows_ahead_of_all_programs(self):
        for row in ROWS:
            self.refuses(row, 0)
            self.refuses(row + "\nprogram a\nfork", 0)

    def test_a_program_without_rows(self):
        self.refuses("program a", 1)
        self.refuses("program a\nprogram b\nfork", 1)
        self.refuses("program a\nfork\nprogram b\nprogram c\nfork", 3)
        self.refuses("program a\nfork\nprogram b", 3)
        self.refuses("program a\nprogram a", 1)
        # The form of a row is asked ahead of where the next one stands.
        self.refuses("program a\nprogram B\nfork", 1)

    def test_no_rows_at_all(self):
        self.refuses("", 0)

    def test_line_feeds(self):
        self.refuses("\n", 0)
        self.refuses("\nprogram a\nfork", 0)
        self.refuses("program a\n", 1)
        self.refuses("program a\nfork\n", 2)
        self.refuses("program a\n\nfork", 1)
        self.refuses("program a\nfork\n\nprogram b\nfork", 2)

    def test_the_first_row_that_is_wrong(self):
        self.refuses("program a\nfork\nmask x\nend -1\nprogram b", 2)
        self.refuses("program a\nfork\nprogram b\nprogram c\nend -1", 3)
        self.refuses("program a\nsay 100\nfork\nend 01", 3)
        self.refuses("fork\nforks", 0)

    def test_no_text(self):
        for thing in [*anything(), ["program a", "fork"], ("program a\nfork",), b"program a\nfork", (("a", (("fork",),)),)]:
            if thing.__class__ is str:
                continue
            ahead = frozen(thing)
            self.refuses(thing, 0)
            self.assertEqual(frozen(thing), ahead)

    def test_any_text(self):
        for thing in anything():
            if thing.__class__ is str:
                self.refuses(thing, 0)

    def test_rows_that_are_right_and_no_book(self):
        for row in (
            "end 100", "end 999999999", "say 100", "exec abcdefghi", "exec " + "a" * 300, "goto 10", "goto 999999999", "if 0 10",
            "handle kill plain", "handle halt ignore", "handle kill 0 -", "handle call 10 -", "handle call 0 kill",
            "handle call 0 halt,on", "mask kill", "mask halt", "mask kill,halt,on", "unmask kill", "unmask halt,call",
        ):
            self.refuses(AHEAD + row + BEHIND, None)
            self.refuses(AHEAD + row + BEHIND + "\nforks", 11)

    def test_signals_that_do_not_rise_make_no_book(self):
        """Each word between the commas is a signal, so the row has its form; that they rise is asked of a book."""
        for row in TURNED_ROWS:
            self.refuses(AHEAD + row + BEHIND, None)
            self.refuses(AHEAD + "fork\n" + row, None)
            # What is wrong by its form is told first, wherever it stands.
            self.refuses(AHEAD + row + BEHIND + "\nforks", 11)
            self.refuses(AHEAD + row + "\nfork on", 2)
            self.refuses(AHEAD + row + "\nmask kin,off", 2)
            self.refuses(AHEAD + row + "\nprogram b", 3)
            self.refuses(AHEAD + row + "\nprogram b\nprogram c\nfork", 3)
            self.refuses(AHEAD + row + " -", 1)
            self.refuses(row, 0)
            self.refuses(row + "\nprogram a\nfork", 0)

    def test_every_two_signals(self):
        """Just those that rise, and of which none is sure, are read; all others make no book."""
        for row in ("mask {}", "unmask {}", "handle call 0 {}"):
            for first, one in enumerate(SIGNALS):
                for second, other in enumerate(SIGNALS):
                    text = AHEAD + row.format(one + "," + other)
                    if 2 <= first < second:
                        self.assertEqual(show_book(read_book(text)), text)
                    else:
                        self.refuses(text, None)

    def test_titles_that_make_no_book(self):
        self.refuses("program abcdefghi\nfork", None)
        self.refuses("program a\nfork\nprogram a\nfork", None)
        self.refuses("program b\nfork\nprogram a\nfork", None)
        self.refuses("program a\nfork\nprogram c\nfork\nprogram b\nfork", None)

    def test_every_row_broken_at_every_sign(self):
        """Whatever is done to one sign, a text is a book's own one or is refused."""
        signs = " -0,.az;~/\n"
        for row in ROWS:
            for at in range(len(row) + 1):
                for sign in signs:
                    for broken in (row[:at] + sign + row[at:], row[:at] + sign + row[at + 1:]):
                        text = AHEAD + broken + BEHIND
                        try:
                            book = read_book(text)
                        except (NoText, NoBook):
                            continue
                        self.assertEqual(show_book(book), text)


if __name__ == "__main__":
    unittest.main()
