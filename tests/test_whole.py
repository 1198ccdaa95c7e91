"""What the document promises over the whole program, looked at by many scripts."""

import random
import unittest

from chances import some_walk
from kinsignals import errors
from kinsignals.desk import Desk
from kinsignals.houses import House
from kinsignals.reaching import reached, script_to, stills
from kinsignals.rebuilding import counted, rebuilt
from kinsignals.scripts import of_one, tale, walk
from kinsignals.showing import show_book
from kinsignals.stillness import chain, still, why
from kinsignals.touching import meet, touched


def is_told(thing):
    """Whether a thing is made of tuples, whole numbers, texts, truths and None alone."""
    if thing.__class__ is tuple:
        return all(is_told(part) for part in thing)
    return thing is None or thing.__class__ in (int, str, bool)


class Whole(unittest.TestCase):
    def test_two_houses_have_one_text_just_where_they_are_equal(self):
        same = other = 0
        for seed in range(60):
            houses = [house.twin() for house, entry in some_walk(random.Random(f"text {seed}"), 50)]
            for at, house in enumerate(houses):
                for behind in houses[at:]:
                    equal = house == behind
                    self.assertEqual(str(house) == str(behind), equal)
                    same, other = same + equal, other + (not equal)
        self.assertGreater(min(same, other), 1000)

    def test_all_that_is_told_is_plain(self):
        for seed in range(60):
            for house, entry in some_walk(random.Random(f"told {seed}"), 30):
                events = walk(house.twin(), (entry, ()))
                for told in (
                    events, tale(events), of_one(events, ()), rebuilt(house, events), counted(events), still(house),
                    why(house, ()), chain(house, ()), touched(house, entry), meet(house, entry, ()), house.names(),
                    house.sessions(), str(house), show_book(house.book),
                ):
                    self.assertTrue(is_told(told), told)

    def test_what_was_told_may_be_handed_in_again(self):
        book = (("a", (("fork",), ("if", 0, 4), ("wait", None, False), ("pause",), ("end", 7))),)
        house = House(book, "a")
        for text in reached(house):
            script = script_to(house, text)
            there = house.twin()
            events = walk(there, script)
            self.assertEqual(str(there), text)
            self.assertEqual(
                rebuilt(house, events), tuple((name, *there.person(name)[:4], there.person(name)[9]) for name in there.names()),
            )
            for name in chain(there, ()):
                self.assertIn(name, there.names())
        self.assertLessEqual(set(stills(house)), set(reached(house)))
        desk = Desk()
        desk.say("book " + show_book(book).replace("\n", " ; "))
        desk.say("house a")
        self.assertEqual(desk.say("reached"), str(len(reached(house))))

    def test_refusals_stand_straight_under_one(self):
        classes = [thing for thing in vars(errors).values() if isinstance(thing, type) and thing is not errors.KinError]
        self.assertEqual(len(classes), 11)
        for one in classes:
            self.assertEqual(one.__bases__, (errors.KinError,))
        self.assertEqual(errors.KinError.__bases__, (ValueError,))


if __name__ == "__main__":
    unittest.main()
