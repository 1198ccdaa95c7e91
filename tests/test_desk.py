"""A desk: say, say_all, log."""

import random
import unittest

from anything import anything, frozen
from chances import MOST_PEOPLE, some_entry, some_house
from kinsignals import errors
from kinsignals.desk import KEPT, Desk
from kinsignals.errors import NoBook, NoEntry, NoHouse, NoLine, NoOne, NoSession, NoText, NoTitle, NoTyped, TooMany
from kinsignals.reaching import reached
from kinsignals.showing import show_book
from kinsignals.stillness import still, why
from kinsignals.touching import meet

BOOK = "book program a ; fork ; if 0 4 ; wait any ; pause ; end 7 ; program b ; read ; read ; pause"
EVER_MORE = "book program a ; fork ; if 0 4 ; wait any ; goto 0 ; end 0"

# Lines of no form, whatever book or house there is.
NO_LINES = [
    "", " ", "  ", "who ", " who", "who  ", "who /", "whos", "Who", "WHO", "wh", "hello", "-", "~", "/", "0",
    "book", "Book program a ; fork", " book program a ; fork", "books", "book\tprogram a",
    "house", "house ", "house  a", "house a ", " house a", "house A", "house 0", "house -", "house ~", "house a1", "house a-",
    "house abcdefghi", "house a b", "house a 01", "house a 00", "house a -0", "house a -01", "house a +1", "house a 1  2",
    "house a 1 ", "house a 1,2", "house a 1.2", "house a 1234567890", "house a -1234567890", "house a " + "1" * 4400,
    "house a 1 x", "house a /", "house a -", "house a ~", "house 1 a", "house a --1",
    "step", "step ", "step  /", "step / ", "step /  0", "step -", "step ~", "step a", "step 0.", "step .0", "step 0..1", "step .",
    "step 00", "step 01", "step 0.01", "step -1", "step 0.-1", "step 1234567890", "step 0.1234567890", "step /0", "step 0/", "step //",
    "step 0,1", "step 0;1", "step 0 1 x", "step 0 ; 1", "step ()", "step 0 ", "steps /", "step +1", "step " + "1" * 4400,
    "put", "put /", "put / ", "put 5", "put / 1 2", "put / 01", "put / -0", "put / x", "put / 1234567890", "put / +1", "put  / 1",
    "put / 1 ", "put - 1", "put 1 /", "put / /", "put / -", "put / ~", "put 0.01 1", "put 01 1", "put / 1.2", "put / " + "9" * 4400,
    "key", "key /", "key call", "key / ", "key / calls", "key / Call", "key call /", "key / call hang", "key / call,hang", "key / -",
    "key  / call", "key / call ", "key -1 call", "key 00 call", "key / 0", "key ~ call",
    "person", "person ", "person / /", "person -", "person 00", "person a", "person 1234567890", "person  /", "person / ",
    "why", "why ", "why / 0", "why -1", "why ~", "why a", "why 0.", "why  0", "why 1234567890",
    "still ", "still /", "still 0", "stills", " still", "still  ",
    "meet", "meet /", "meet / ", "meet / 0 1", "meet  / 0", "meet / 0 ", "meet / -", "meet / 00", "meet - /", "meet a b", "meet /  0",
    "meet / 1234567890",
    "reached ", "reached /", "reached 5", "reach", " reached",
    "log", "names", "walk /", "tale", "chain /", "front /", "typed /", "sessions", "twin", "show", "stops", "open", "shut", "said",
]

# Lines of right form that need a house, whatever names and sessions there are.
HOUSE_LINES = [
    "step /", "step / 0 1", "step 5.6.7", "step 999999999", "step 0.0.0.0.0.0.0.0.0.0", "put / 0", "put / 100", "put 7 1", "put / -1",
    "put / -999999999", "key / call", "key 3.4 kill", "who", "person /", "person 9", "why /", "why 9", "still", "meet / /", "meet 9 8",
    "reached",
]


class Case(unittest.TestCase):
    def refused(self, error_class, desk, line, **values):
        """The line is refused with this class and these values; nothing but the log is changed."""
        with self.subTest(line=line):
            book, text, log = self.book_of(desk), self.text_of(desk), desk.log()
            ahead = frozen(line)
            with self.assertRaises(errors.KinError) as caught:
                desk.say(line)
            error = caught.exception
            self.assertIs(error.__class__, error_class)
            self.assertEqual({name: getattr(error, name) for name in values}, values)
            self.assertEqual(desk.log(), (*log, "refused"))
            self.assertEqual((self.book_of(desk), self.text_of(desk)), (book, text))
            self.assertEqual(frozen(line), ahead)

    def book_of(self, desk):
        return repr(desk.book)

    def text_of(self, desk):
        return None if desk.house is None else str(desk.house)

    def answers(self, desk, line, answer):
        log = desk.log()
        told = desk.say(line)
        self.assertEqual(told, answer)
        self.assertIs(told.__class__, str)
        self.assertEqual(desk.log(), (*log, "said"))

    def desk(self, *lines):
        desk = Desk()
        for line in lines:
            desk.say(line)
        return desk


class Lines(Case):
    def test_a_new_desk(self):
        desk = Desk()
        self.assertEqual(desk.log(), ())
        for line in [*HOUSE_LINES, "house a", "house zz 1 2", "house a -1", "house a 100"]:
            self.refused(NoHouse, desk, line)

    def test_a_desk_with_a_book(self):
        desk = self.desk(BOOK)
        for line in HOUSE_LINES:
            self.refused(NoHouse, desk, line)

    def test_no_line_ahead_of_all(self):
        for desk in (Desk(), self.desk(BOOK), self.desk(BOOK, "house a")):
            for line in NO_LINES:
                self.refused(NoLine, desk, line)

    def test_anything_in_the_place_of_a_line(self):
        for desk in (Desk(), self.desk(BOOK, "house a")):
            for thing in [*anything(), b"who", ["who"], ("who",), ("step", ())]:
                # No text of these is a line, but some have line feeds.
                if thing.__class__ is not str or "\n" not in thing:
                    self.refused(NoLine, desk, thing)

    def test_book(self):
        desk = Desk()
        self.answers(desk, BOOK, "done")
        self.answers(desk, "house b 5", "done")
        self.answers(desk, "step /", "read / 5")

    def test_a_book_of_one_row(self):
        desk = Desk()
        self.answers(desk, "book program a ; fork", "done")
        self.answers(desk, "house a", "done")
        self.answers(desk, "who", "/")

    def test_book_refused_as_read_book(self):
        for desk in (Desk(), self.desk(BOOK), self.desk(BOOK, "house a")):
            self.refused(NoText, desk, "book ", row=0)
            self.refused(NoText, desk, "book  ", row=0)
            self.refused(NoText, desk, "book  program a ; fork", row=0)
            self.refused(NoText, desk, "book program a", row=1)
            self.refused(NoText, desk, "book program a ; ", row=1)
            self.refused(NoText, desk, "book program a ; fork ; ", row=2)
            self.refused(NoText, desk, "book program a ; fork ;", row=1)
            self.refused(NoText, desk, "book program a; fork", row=0)
            self.refused(NoText, desk, "book program a ;fork", row=0)
            self.refused(NoText, desk, "book program a ;  fork", row=1)
            self.refused(NoText, desk, "book program a  ; fork", row=0)
            self.refused(NoText, desk, "book ; program a ; fork", row=0)
            self.refused(NoText, desk, "book program a ; ; fork", row=1)
            self.refused(NoText, desk, "book program a ; end -1", row=1)
            self.refused(NoText, desk, "book fork", row=0)
            self.refused(NoText, desk, "book book", row=0)
            self.refused(NoText, desk, "book program a ; program b ; fork", row=1)
            self.refused(NoBook, desk, "book program a ; end 100")
            self.refused(NoBook, desk, "book program abcdefghi ; fork")
            self.refused(NoBook, desk, "book program b ; fork ; program a ; fork")
            self.refused(NoBook, desk, "book program a ; mask kin,on")
            self.refused(NoBook, desk, "book program a ; handle on 0 call,call")
            self.refused(NoText, desk, "book program a ; mask kin,on ; fork on", row=2)
            self.refused(NoText, desk, "book program a ; mask kin,off", row=1)

    def test_a_new_book_leaves_the_house(self):
        desk = self.desk(BOOK, "house a", "step /")
        self.answers(desk, "book program c ; say 3", "done")
        self.answers(desk, "who", "/ 0")
        # The house still runs the programs that it was made of.
        self.answers(desk, "step 0 0", "went 0 4 ; ended 0 7 ; fell / kin")
        self.refused(NoTitle, desk, "house a", title="a")
        self.answers(desk, "house c", "done")
        self.answers(desk, "who", "/")
        self.answers(desk, "step /", "said / 3")

    def test_a_new_house_begins_anew(self):
        desk = self.desk(BOOK, "house a 1 2", "step / 0")
        self.answers(desk, "house a", "done")
        self.answers(desk, "who", "/")
        self.answers(desk, "person /", "person / ~ / / runs ~ a 0 0 - - - - 0 no no ~")

    def test_house(self):
        desk = self.desk(BOOK)
        self.answers(desk, "house b", "done")
        self.answers(desk, "why /", "reads")
        self.answers(desk, "house b 0 99", "done")
        self.answers(desk, "step / /", "read / 0 ; read / 99")
        self.refused(NoTitle, desk, "house c", title="c")
        self.refused(NoTitle, desk, "house abcdefgh", title="abcdefgh")
        for line in ("house a -1", "house a 100", "house a 1 2 -999999999", "house a 999999999"):
            self.refused(NoTyped, desk, line)
        self.refused(NoTitle, desk, "house c 100", title="c")

    def test_step(self):
        desk = self.desk(BOOK, "house a")
        self.answers(desk, "step /", "fork / 0")
        self.answers(desk, "step / / 0", "went / 2 ; idle / waits ; went 0 4")
        self.answers(desk, "step 0 / /", "ended 0 7 ; fell / kin ; told / 0 7 ; idle / pauses")
        self.answers(desk, "who", "/")

    def test_step_of_one_that_is_born_ahead(self):
        desk = self.desk(BOOK, "house a")
        self.answers(desk, "step / 0", "fork / 0 ; went 0 4")

    def test_step_all_or_none(self):
        desk = self.desk(BOOK, "house a")
        self.refused(NoOne, desk, "step 0", name=(0,))
        self.refused(NoOne, desk, "step 0 /", name=(0,))
        self.refused(NoOne, desk, "step / 0 1.2 0", name=(1, 2))
        self.refused(NoOne, desk, "step / / 999999999.0", name=(999999999, 0))
        self.answers(desk, "who", "/")
        # One that its parent was told of is there no more.
        desk.say("step / / 0")
        self.refused(NoOne, desk, "step 0 / 0", name=(0,))
        self.answers(desk, "who", "/ 0")

    def test_put(self):
        desk = self.desk(BOOK, "house b")
        self.answers(desk, "put / 7", "typed / 7")
        self.answers(desk, "put / 0", "typed / 0")
        self.answers(desk, "step / / /", "read / 7 ; read / 0 ; idle / pauses")
        for line in ("put / 100", "put / -1", "put / 999999999", "put 9 100"):
            self.refused(NoEntry, desk, line)
        self.refused(NoSession, desk, "put 0 7", name=(0,))
        self.refused(NoSession, desk, "put 1.2 7", name=(1, 2))

    def test_key(self):
        desk = self.desk(BOOK, "house a", "step /")
        self.answers(desk, "key / call", "keyed / call ; fell / call ; held 0 call")
        self.answers(desk, "key / call", "keyed / call ; fell / call ; merged 0 call")
        self.answers(desk, "key / kill", "keyed / kill ; fell / kill ; held 0 kill")
        self.refused(NoSession, desk, "key 0 call", name=(0,))
        self.refused(NoSession, desk, "key 9.9 on", name=(9, 9))

    def test_key_with_none_in_front(self):
        desk = self.desk("book program a ; fork ; if 0 3 ; pause ; session ; pause", "house a", "step / 0 0")
        self.answers(desk, "key 0 halt", "keyed 0 halt")
        self.answers(desk, "put 0 3", "typed 0 3")

    def test_who(self):
        desk = self.desk("book program a ; fork ; fork ; pause", "house a")
        self.answers(desk, "who", "/")
        desk.say("step / 0 0 / /")
        self.answers(desk, "who", "/ 0 0.0 1")

    def test_person(self):
        desk = self.desk(
            "book program a ; handle call 4 on,rest ; handle kin ignore ; mask hang ; send call self ; fork ; pause", "house a",
        )
        self.answers(desk, "person /", "person / ~ / / runs ~ a 0 0 - - - - 0 no no ~")
        desk.say("step / / / /")
        self.answers(desk, "person /", "person / ~ / / runs ~ a 4 0 hang call call=4:on,rest;kin=ignore - 0 no no ~")
        desk.say("step / /")
        self.answers(
            desk, "person 0", "person 0 / / / runs ~ a 5 0 on,hang,call,rest - call=4:on,rest;kin=ignore 4:hang 0 no no ~",
        )
        self.refused(NoOne, desk, "person 1", name=(1,))
        self.refused(NoOne, desk, "person 0.0", name=(0, 0))

    def test_why(self):
        desk = self.desk(BOOK, "house a")
        self.answers(desk, "why /", "-")
        desk.say("step / / 0")
        self.answers(desk, "why /", "waits")
        self.answers(desk, "why 0", "-")
        desk.say("step 0")
        self.answers(desk, "why 0", "ended")
        self.answers(desk, "why /", "-")
        self.refused(NoOne, desk, "why 1", name=(1,))

    def test_still(self):
        desk = self.desk("book program a ; fork ; fork ; pause", "house a")
        self.answers(desk, "still", "no")
        desk.say("step / / 0 0.0")
        self.refused(NoOne, desk, "step 0.1", name=(0, 1))
        desk.say("key / halt")
        self.answers(desk, "still", "no")
        desk.say("step 0 1 0.0")
        self.answers(desk, "still", "/ pauses, 0 stopped, 0.0 stopped, 1 stopped")
        desk = self.desk("book program a ; pause", "house a")
        self.answers(desk, "still", "/ pauses")

    def test_meet(self):
        desk = self.desk("book program a ; fork ; if 0 4 ; send call 0 ; pause ; say 1 ; end 0", "house a", "step /")
        self.answers(desk, "meet / 0", "no")
        self.answers(desk, "meet 0 /", "no")
        self.answers(desk, "meet / /", "yes")
        desk.say("step /")
        self.answers(desk, "meet / 0", "yes")
        self.refused(NoOne, desk, "meet 1 2", name=(1,))
        self.refused(NoOne, desk, "meet / 2", name=(2,))

    def test_reached(self):
        desk = self.desk("book program a ; say 1 ; say 2", "house a")
        self.answers(desk, "reached", "3")
        desk.say("step /")
        self.answers(desk, "reached", "2")
        self.answers(desk, "who", "/")
        desk = self.desk(EVER_MORE, "house a")
        self.refused(TooMany, desk, "reached")

    def test_each_event_s_form(self):
        book = (
            "book program a ; say 7 ; goto 2 ; if 5 0 ; mask call,rest ; unmask call ; unmask rest ; handle call ignore ; return ; "
            "taker ; front self ; exec b ; program b ; group self new ; fork ; if 0 7 ; send halt 0 ; pause ; pause ; pause ; "
            "session ; fork ; if 0 11 ; end 3 ; end 2"
        )
        desk = self.desk(book, "house a")
        self.answers(
            desk, "step / / / / / / / / / / /",
            "said / 7 ; went / 2 ; went / 3 ; mask / call,rest ; mask / rest ; mask / - ; handle / call ; lack / ; taker / ; "
            "front / / ; exec / b",
        )
        self.answers(desk, "step / /", "lack / ; fork / 0")
        self.answers(desk, "step 0 0 0", "went 0 7 ; session 0 ; fork 0 0.0")
        self.answers(desk, "step / / 0", "went / 3 ; sent / halt ; held 0 halt ; struck 0 halt ; fell / kin")
        self.answers(desk, "step 0.0 0.0", "went 0.0 11 ; ended 0.0 2 ; fell 0 kin")

    def test_by_many_scripts(self):
        """The desk answers as the functions tell."""
        for seed in range(60):
            chance = random.Random(f"desk {seed}")
            house = some_house(chance)
            typed = house.typed(())
            desk = self.desk(
                "book " + show_book(house.book).replace("\n", " ; "), " ".join(["house a", *[str(n) for n in typed]]),
            )
            for _ in range(40):
                if len(house) > MOST_PEOPLE:
                    break
                entry = some_entry(chance, house)
                name, other = chance.choice(house.names()), chance.choice(house.names())
                word = why(house, name)
                self.answers(desk, "who", " ".join(shown(one) for one in house.names()))
                self.answers(desk, f"why {shown(name)}", word or "-")
                self.answers(desk, f"meet {shown(name)} {shown(other)}", "yes" if meet(house, name, other) else "no")
                reasons = still(house)
                self.answers(
                    desk, "still", "no" if reasons is None else ", ".join(f"{shown(one)} {reason}" for one, reason in reasons),
                )
                rows = [row for row in str(house).split("\n") if row.startswith(f"person {shown(name)} ")]
                self.answers(desk, f"person {shown(name)}", *rows)
                line = " ".join([entry[0], shown(entry[1]), str(entry[2])]) if entry[:1] in (("put",), ("key",)) else None
                events = house.step(entry)
                told = " ; ".join(" ".join(shown_thing(event, at) for at in range(len(event))) for event in events)
                self.answers(desk, line or f"step {shown(entry)}", told)
                self.assertEqual(desk.house, house)

    def test_reached_by_many_houses(self):
        looked = 0
        for seed in range(60):
            house = some_house(random.Random(f"desk reached {seed}"))
            line = " ".join(["house a", *[str(n) for n in house.typed(())]])
            try:
                many = len(reached(house, most=200))
            except TooMany:
                continue
            desk = self.desk("book " + show_book(house.book).replace("\n", " ; "), line)
            self.answers(desk, "reached", str(many))
            looked += 1
        self.assertGreater(looked, 5)


def shown(name):
    return ".".join(str(number) for number in name) or "/"


def shown_thing(event, at):
    thing = event[at]
    if event[0] == "mask" and at == 2:
        return ",".join(thing) or "-"
    return shown(thing) if thing.__class__ is tuple else str(thing)


class SayAll(Case):
    def test_the_constant(self):
        self.assertIs(KEPT, True)

    def test_none(self):
        desk = Desk()
        self.assertEqual(desk.say_all(()), ())
        self.assertIs(desk.say_all(()).__class__, tuple)
        self.assertEqual(desk.log(), ("open", "shut") * 2)

    def test_several(self):
        for keep in ({}, {"keep": True}, {"keep": False}, {"keep": KEPT}):
            desk = Desk()
            lines = (BOOK, "house a", "step / 0", "who")
            told = desk.say_all(lines, **keep)
            self.assertEqual(told, ("done", "done", "fork / 0 ; went 0 4", "/ 0"))
            self.assertIs(told.__class__, tuple)
            self.assertEqual(desk.log(), ("open", "said", "said", "said", "said", "shut"))
            self.answers(desk, "who", "/ 0")

    def test_keep_goes_by_its_name_alone(self):
        self.assertRaises(TypeError, Desk().say_all, (), True)

    # A line that is refused by each class, at a desk that has the house of BOOK's program a.
    REFUSED = (
        ("whose", NoLine, {}), (None, NoLine, {}), (5, NoLine, {}), (["who"], NoLine, {}), ("house c", NoTitle, {"title": "c"}),
        ("house a 100", NoTyped, {}), ("step / 5", NoOne, {"name": (5,)}), ("put 5 1", NoSession, {"name": (5,)}),
        ("put / 100", NoEntry, {}), ("book fork", NoText, {"row": 0}), ("book program a ; end 100", NoBook, {}),
    )

    def say_refused(self, desk, lines, error_class, values, **keep):
        with self.assertRaises(errors.KinError) as caught:
            desk.say_all(lines, **keep)
        self.assertIs(caught.exception.__class__, error_class)
        self.assertEqual({name: getattr(caught.exception, name) for name in values}, values)

    def test_one_refused_at_each_place(self):
        good = ("step /", "book program c ; say 1", "house c", "step /")
        behind = ["/ 0", "/ 0", "/", "/"]
        for line, error_class, values in self.REFUSED:
            for at in range(len(good) + 1):
                # A title that the book in between doesn't have is refused as well, and named otherwise.
                for keep in ({}, {"keep": True}, {"keep": False}):
                    with self.subTest(line=line, at=at, keep=keep):
                        desk = self.desk(BOOK, "house a")
                        ahead = desk.log()
                        lines = (*good[:at], line if line != "house a 100" or at < 2 else "house c 100", *good[at:])
                        wanted = (error_class, values)
                        if line == "house c" and at >= 2:
                            wanted, lines = (NoTitle, {"title": "zz"}), (*good[:at], "house zz", *good[at:])
                        self.say_refused(desk, lines, *wanted, **keep)
                        self.assertEqual(desk.log(), (*ahead, "open", *["said"] * at, "refused", "shut"))
                        kept = keep.get("keep", True)
                        self.assertEqual(desk.say("who"), behind[at - 1] if kept and at else "/")
                        # The house and the book are those that are kept, or those of before.
                        title = "c" if kept and at >= 2 else "a"
                        self.assertEqual(desk.say(f"house {title}"), "done")
                        self.refused(NoTitle, desk, f"house {'a' if title == 'c' else 'c'}")

    def test_steps_ahead_of_a_refusal(self):
        for keep, who in ((True, "/ 0"), (False, "/")):
            desk = self.desk(BOOK, "house a")
            book, house, text = desk.book, desk.house.twin(), str(desk.house)
            self.say_refused(desk, ("step /", "step /", "step 9"), NoOne, {"name": (9,)}, keep=keep)
            self.answers(desk, "who", who)
            if not keep:
                self.assertEqual((desk.book, desk.house, str(desk.house)), (book, house, text))
            # What comes behind is answered as ever.
            self.answers(desk, "step /", "idle / waits" if keep else "fork / 0")

    def test_no_house_and_too_many(self):
        for keep in (True, False):
            desk = Desk()
            self.say_refused(desk, (BOOK, "who"), NoHouse, {}, keep=keep)
            self.assertEqual(desk.log(), ("open", "said", "refused", "shut"))
            if keep:
                self.answers(desk, "house a", "done")
            else:
                self.refused(NoHouse, desk, "house a")
            desk = Desk()
            self.say_refused(desk, (EVER_MORE, "house a", "step /", "reached", "who"), TooMany, {}, keep=keep)
            self.assertEqual(desk.log(), ("open", "said", "said", "said", "refused", "shut"))
            if keep:
                self.answers(desk, "who", "/ 0")
            else:
                self.refused(NoHouse, desk, "who")

    def test_a_house_that_was_not_there_ahead(self):
        desk = self.desk(BOOK)
        self.say_refused(desk, ("house a", "step /", "nothing"), NoLine, {}, keep=False)
        self.refused(NoHouse, desk, "who")
        self.answers(desk, "house a", "done")

    def test_anything_in_it(self):
        for thing in anything():
            if thing.__class__ is str and "\n" in thing:
                continue
            for keep in (True, False):
                desk = self.desk(BOOK, "house a")
                ahead = frozen(thing)
                self.say_refused(desk, ("step /", thing, "who"), NoLine, {}, keep=keep)
                self.assertEqual(frozen(thing), ahead)
                self.answers(desk, "who", "/ 0" if keep else "/")

    def test_the_log_of_all(self):
        desk = Desk()
        self.assertRaises(NoHouse, desk.say, "who")
        desk.say(BOOK)
        desk.say_all(("house a", "step /"))
        self.assertRaises(NoLine, desk.say_all, ("who", "whom", "who"))
        self.assertRaises(NoLine, desk.say, None)
        self.assertRaises(NoOne, desk.say_all, ("step 7",), keep=False)
        desk.say_all(())
        desk.say("who")
        log = desk.log()
        self.assertIs(log.__class__, tuple)
        self.assertEqual(log, (
            "refused", "said", "open", "said", "said", "shut", "open", "said", "refused", "shut", "refused", "open", "refused",
            "shut", "open", "shut", "said",
        ))
        # What the log told stays as it was told.
        desk.say("who")
        self.assertEqual(len(log), 17)

    def test_two_desks_are_apart(self):
        one, other = self.desk(BOOK, "house a"), self.desk(BOOK, "house a")
        one.say("step /")
        self.answers(other, "who", "/")
        self.assertEqual(len(other.log()), 3)

    def test_by_many_scripts(self):
        """Whatever is refused in the midst, the desk goes on as if those ahead, or nothing at all, had been said."""
        bad = ["", "whom", "step 9.9", "put 9.9 1", "put / 100", "house zz", "house a 100", "book x", "book program a ; end 100", 7]
        for seed in range(60):
            chance = random.Random(f"say_all {seed}")
            house = some_house(chance)
            start = ("book " + show_book(house.book).replace("\n", " ; "), "house a")
            desk, plain = self.desk(*start), self.desk(*start)
            for _ in range(12):
                twin, lines = plain.house.twin(), []
                if len(twin) > 12:
                    break
                for _ in range(chance.randrange(5)):
                    name = chance.choice(twin.names())
                    twin.step(name)
                    lines.append(f"step {shown(name)}")
                wrong, keep = chance.random() < 0.7, chance.random() < 0.5
                ahead = desk.log()
                if wrong:
                    said = (*lines, chance.choice(bad), "who")
                    self.assertRaises(errors.KinError, desk.say_all, said, keep=keep)
                    self.assertEqual(desk.log(), (*ahead, "open", *["said"] * len(lines), "refused", "shut"))
                else:
                    told = desk.say_all(tuple(lines), keep=keep)
                    self.assertEqual(desk.log(), (*ahead, "open", *["said"] * len(lines), "shut"))
                if keep or not wrong:
                    answers = tuple(plain.say(line) for line in lines)
                    self.assertTrue(wrong or answers == told)
                self.assertEqual(desk.house, plain.house)
                self.assertEqual(desk.book, plain.book)
                self.assertEqual(desk.say("who"), plain.say("who"))


if __name__ == "__main__":
    unittest.main()
