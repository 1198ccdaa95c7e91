"""is_row: the eighteen kinds of rows, their bounds, and anything else."""

import unittest

from anything import anything, frozen
from kinsignals.programs import is_row

SIGNALS = ("kill", "halt", "on", "hang", "quit", "call", "kin", "rest", "reads")
LOOSE = SIGNALS[2:]
NO_SIGNALS = ("", "Kill", "KIN", "kil", "killed", " kin", "kin ", "kin,rest", "term", "self", "plain")

# One row of each word, in a program of two rows.
ROWS = (
    ("fork",), ("exec", "abc"), ("end", 5), ("wait", None, False), ("pause",), ("read",), ("send", "kin", "self"),
    ("mask", ("on", "kin")), ("unmask", ("on", "kin")), ("handle", "kin", (1, ("rest",))), ("return",),
    ("session",), ("group", "self", "new"), ("front", "self"), ("taker",), ("say", 5), ("goto", 1), ("if", -3, 1),
)


class Case(unittest.TestCase):
    def holds(self, row, size=2):
        with self.subTest(row=row, size=size):
            self.assertIs(is_row(row, size), True)

    def fails(self, row, size=2):
        with self.subTest(row=row, size=size):
            self.assertIs(is_row(row, size), False)

    def fails_with(self, ahead, wrongs, behind=()):
        for wrong in wrongs:
            self.fails((*ahead, wrong, *behind))


class Forms(Case):
    def test_one_of_each_word(self):
        self.assertEqual(len({row[0] for row in ROWS}), 18)
        for row in ROWS:
            self.holds(row)
            self.holds(row, 40)

    def test_one_part_more(self):
        for row in ROWS:
            for more in (None, 0, "self", (), True, row[-1]):
                self.fails((*row, more))
                self.fails((more, *row))

    def test_one_part_fewer(self):
        for row in ROWS:
            self.fails(row[:-1])
            self.fails(row[1:])

    def test_a_list_in_the_place_of_the_row(self):
        for row in ROWS:
            self.fails(list(row))

    def test_a_word_of_no_row(self):
        words = ("", "Fork", "FORK", "forks", "fork ", " fork", "spawn", "kill", "any", "stops", "program", "else")
        for word in words:
            for row in ROWS:
                self.fails((word, *row[1:]))

    def test_what_is_no_text_as_word(self):
        for word in (None, True, 0, b"fork", ("fork",), ["fork"], {"fork": 1}, {"fork"}, object()):
            for row in ROWS:
                self.fails((word, *row[1:]))

    def test_a_row_in_a_row(self):
        for row in ROWS:
            self.fails((row,))

    def test_the_words_of_others(self):
        for row in ROWS:
            for other in ROWS:
                if len(row) != len(other):
                    self.fails((row[0], *other[1:]))


class Numbers(Case):
    def test_end_and_say_from_0_to_99(self):
        for word in ("end", "say"):
            for n in (0, 1, 50, 98, 99):
                self.holds((word, n))
            self.fails_with((word,), (-1, -99, 100, 101, 1000, 10 ** 9))

    def test_a_row_s_number_up_to_the_last_row(self):
        for size in (1, 2, 7, 40):
            for build in (
                lambda r: ("goto", r),
                lambda r: ("if", 0, r),
                lambda r: ("handle", "on", (r, ())),
            ):
                self.holds(build(0), size)
                self.holds(build(size - 1), size)
                self.fails(build(size), size)
                self.fails(build(size + 1), size)
                self.fails(build(-1), size)
                self.fails(build(-size), size)

    def test_a_child_s_number_from_0(self):
        for build in (
            lambda k: ("wait", k, True),
            lambda k: ("send", "on", k),
            lambda k: ("group", k, "mine"),
            lambda k: ("front", k),
        ):
            for k in (0, 1, 2, 40, 99, 100, 999999999):
                self.holds(build(k))
                self.holds(build(k), 1)
            for k in (-1, -2, -999999999):
                self.fails(build(k))

    def test_if_takes_any_whole_number(self):
        for m in (0, 1, -1, 99, 100, -100, 206, 300, 999999999, -999999999):
            self.holds(("if", m, 0))

    def test_a_truth_is_no_number(self):
        for truth in (True, False):
            for row in (
                ("end", truth), ("say", truth), ("goto", truth), ("if", truth, 0), ("if", 0, truth),
                ("wait", truth, False), ("send", "on", truth), ("group", truth, "new"), ("front", truth),
                ("handle", "on", (truth, ())), ("exec", truth),
            ):
                self.fails(row)
                self.fails(row, 40)

    def test_a_text_or_a_tuple_is_no_number(self):
        for wrong in ("0", "", "1", b"0", (), (0,), [0], {0: 0}, None):
            self.fails_with(("end",), (wrong,))
            self.fails_with(("say",), (wrong,))
            self.fails_with(("goto",), (wrong,))
            self.fails_with(("if",), (wrong,), (0,))
            self.fails_with(("if", 0), (wrong,))
            self.fails(("handle", "on", (wrong, ())))


class Titles(Case):
    def test_exec_of_1_to_8_letters(self):
        for title in ("a", "z", "az", "abcdefgh", "stuvwxyz", "fork"):
            self.holds(("exec", title))

    def test_exec_of_no_title(self):
        wrongs = ("", "abcdefghi", "A", "aB", "Ab", "a1", "1", "a b", " a", "a ", "a_", "a-b", "a.b", "`", "{",
                  "\n", "a\n", "\u00e4", "\u00df", "\u00aa", b"a", ("a",), ["a"], None, 0, True)
        self.fails_with(("exec",), wrongs)


class Waiting(Case):
    def test_which_and_stops(self):
        for which in (None, 0, 3):
            for stops in (True, False):
                self.holds(("wait", which, stops))

    def test_which_is_no_word(self):
        self.fails_with(("wait",), ("any", "self", "", (), "None"), (False,))

    def test_a_number_is_no_truth(self):
        self.fails_with(("wait", None), (0, 1, -1, 2, None, "", "stops", "yes", (), []))


class Sending(Case):
    def test_each_signal_to_each(self):
        for signal in SIGNALS:
            for to in ("self", "parent", "group", 0, 5):
                self.holds(("send", signal, to))

    def test_what_is_no_signal(self):
        self.fails_with(("send",), (*NO_SIGNALS, None, 0, True, b"kin", ("kin",), ["kin"]), ("self",))

    def test_to_nobody(self):
        self.fails_with(("send", "kin"), ("", "Self", "child", "new", "mine", "all", "0", None, (), (0,), [0], b"self"))


class SignalTuples(Case):
    def places(self, signals):
        return (("mask", signals), ("unmask", signals), ("handle", "hang", (0, signals)))

    def test_none_each_one_and_all(self):
        for signals in ((), LOOSE, *[(signal,) for signal in LOOSE], ("on", "reads"), ("hang", "kin", "rest")):
            for row in self.places(signals):
                self.holds(row)

    def test_every_choice_in_its_order(self):
        for choice in range(2 ** len(LOOSE)):
            signals = tuple(signal for at, signal in enumerate(LOOSE) if choice >> at & 1)
            for row in self.places(signals):
                self.assertIs(is_row(row, 1), True, row)

    def test_a_sure_one_among_them(self):
        for sure in ("kill", "halt"):
            for signals in ((sure,), (sure, *LOOSE), (*LOOSE, sure), ("on", sure, "hang")):
                for row in self.places(signals):
                    self.fails(row)
        for row in self.places(SIGNALS):
            self.fails(row)

    def test_two_exchanged(self):
        for at in range(len(LOOSE)):
            for behind in range(at + 1, len(LOOSE)):
                for row in self.places((LOOSE[behind], LOOSE[at])):
                    self.fails(row)
                many = list(LOOSE)
                many[at], many[behind] = many[behind], many[at]
                for row in self.places(tuple(many)):
                    self.fails(row)

    def test_they_rise_as_in_signals_not_as_texts(self):
        for row in self.places(("on", "hang", "call")):
            self.holds(row)
        for row in self.places(("call", "hang", "on")):
            self.fails(row)

    def test_one_twice(self):
        for signal in LOOSE:
            for row in self.places((signal, signal)):
                self.fails(row)
        for row in self.places(("on", "hang", "hang", "kin")):
            self.fails(row)

    def test_what_is_no_signal_among_them(self):
        for wrong in (*NO_SIGNALS, None, 0, True, b"on", ("on",), ["on"], {"on": 1}, object()):
            for signals in ((wrong,), ("on", wrong), (wrong, "kin"), ("on", wrong, "kin")):
                for row in self.places(signals):
                    self.fails(row)

    def test_a_list_or_a_text_in_the_place_of_the_tuple(self):
        for wrong in ([], ["on"], list(LOOSE), "on", "", "on,kin", {}, {"on": 1}, {"on"}, b"", None, 0, False):
            for row in self.places(wrong):
                self.fails(row)


class Handling(Case):
    def test_each_signal_that_is_not_sure(self):
        for signal in LOOSE:
            for how in ("plain", "ignore", (0, ()), (1, LOOSE), (1, (signal,))):
                self.holds(("handle", signal, how))

    def test_a_sure_signal(self):
        for signal in ("kill", "halt"):
            for how in ("plain", "ignore", (0, ()), (1, LOOSE)):
                self.fails(("handle", signal, how))

    def test_what_is_no_signal(self):
        for how in ("plain", "ignore", (0, ())):
            self.fails_with(("handle",), (*NO_SIGNALS, None, 0, True, b"kin", ("kin",), ["kin"]), (how,))

    def test_no_way_of_handling(self):
        wrongs = ("", "Plain", "ignored", "self", None, 0, True, b"plain", (), (0,), ((),), (0, (), 0), ((), 0),
                  [0, ()], (0, []), ("plain",), ("0", ()), (0, "on"), (0, None), (None, ()), {0: ()})
        self.fails_with(("handle", "kin"), wrongs)


class WhoAndWhere(Case):
    def test_each_who_and_where(self):
        for who in ("self", 0, 7):
            self.holds(("front", who))
            for where in ("new", "mine"):
                self.holds(("group", who, where))

    def test_who_is_nobody(self):
        wrongs = ("", "Self", "parent", "group", "new", "mine", "0", None, (), (0,), [0], b"self", {"self": 1})
        self.fails_with(("front",), wrongs)
        self.fails_with(("group",), wrongs, ("new",))

    def test_where_is_nowhere(self):
        self.fails_with(("group", "self"), ("", "New", "self", "parent", "front", 0, 1, None, True, (), ["new"], b"new"))


class Anything(Case):
    def check(self, build, wanted=None):
        for thing in anything():
            handed = build(thing)
            ahead = frozen(handed)
            answer = is_row(handed, 2)
            self.assertIn(answer, (True, False), handed)
            self.assertIs(answer.__class__, bool, handed)
            self.assertEqual(frozen(handed), ahead)
            if wanted is not None:
                self.assertIs(answer, wanted, handed)

    def test_as_the_whole(self):
        for thing in anything():
            with self.subTest(thing=thing):
                self.assertIs(is_row(thing, 2), thing.__class__ is tuple and thing == ("fork",))

    def test_nothing_handed_in_is_changed(self):
        self.check(lambda thing: thing)

    def test_as_the_word(self):
        for row in ROWS:
            if len(row) > 1:
                self.check(lambda thing: (thing, *row[1:]), False)

    def test_as_each_part(self):
        for row in ROWS:
            for at in range(len(row)):
                self.check(lambda thing: (*row[:at], thing, *row[at + 1:]))

    def test_as_each_part_of_a_list(self):
        for row in ROWS:
            for at in range(len(row)):
                self.check(lambda thing: [*row[:at], thing, *row[at + 1:]], False)

    def test_as_a_part_too_many(self):
        for row in ROWS:
            self.check(lambda thing: (*row, thing), False)

    def test_within_signals_and_handlers(self):
        self.check(lambda thing: ("mask", (thing,)))
        self.check(lambda thing: ("unmask", ("on", thing)))
        self.check(lambda thing: ("handle", "on", (thing, ())))
        self.check(lambda thing: ("handle", "on", (0, thing)))
        self.check(lambda thing: ("handle", "on", (0, (thing,))))

    def test_a_part_that_must_be_just_one_kind(self):
        right = {
            "exec": lambda thing: thing.__class__ is str and thing in ("a", "self", "fork", "plain", "kill", "on", "zz"),
            "end": lambda thing: thing.__class__ is int and thing in (0, 1, 7, 99),
            "say": lambda thing: thing.__class__ is int and thing in (0, 1, 7, 99),
            "goto": lambda thing: thing.__class__ is int and thing in (0, 1),
            "mask": lambda thing: thing.__class__ is tuple and thing == (),
            "unmask": lambda thing: thing.__class__ is tuple and thing == (),
            "front": lambda thing: thing.__class__ is str and thing == "self" or thing.__class__ is int and thing >= 0,
        }
        for word, wanted in right.items():
            for thing in anything():
                with self.subTest(word, thing=thing):
                    self.assertIs(is_row((word, thing), 2), wanted(thing))


if __name__ == "__main__":
    unittest.main()
