"""A look at what is said to be all that can come: shows_reached."""

import unittest

from anything import Other, anything, frozen, nested
from kinsignals.houses import House
from kinsignals.reaching import reached
from kinsignals.reachlooks import shows_reached
from scenes import Case, book_of, ever_more, house_of, line_of, parted, picture, says


class ShowsReached(Case):
    def shows(self, house, thing, truth):
        """The answer is this truth; the house and the thing stay."""
        seen, ahead = picture(house), frozen(thing)
        self.assertIs(shows_reached(house, thing), truth)
        self.assertEqual(picture(house), seen)
        self.assertEqual(frozen(thing), ahead)

    def all_about(self, house, texts):
        """The tuple itself is shown, and nothing that is near it."""
        texts = tuple(texts)
        other = "session / / -"
        self.shows(house, texts, True)
        for at in sorted({0, len(texts) // 2, len(texts) - 1}):
            left_out = texts[:at] + texts[at + 1:]
            self.shows(house, left_out, False)
            self.shows(house, texts[:at] + texts[at:at + 1] + texts[at:], False)
            self.shows(house, left_out + (other,), False)
            self.shows(house, tuple(sorted((*left_out, other))), False)
            self.shows(house, tuple(sorted((*texts, other))), False)
            for thing in (None, 0, b"", texts, (), [texts[at]], (texts[at],), Other(), house, texts[at].encode()):
                self.shows(house, texts[:at] + (thing,) + texts[at + 1:], False)
                self.shows(house, texts[:at] + (thing,) + texts[at:], False)
            self.shows(house, texts[:at] + (texts[at] + "\n",) + texts[at + 1:], False)
        if len(texts) > 1:
            self.shows(house, texts[::-1], False)
            self.shows(house, (texts[1], texts[0], *texts[2:]), False)
            self.shows(house, (*texts[:-2], texts[-1], texts[-2]), False)
            self.shows(house, texts[:1] * len(texts), False)
        self.shows(house, list(texts), False)
        self.shows(house, (texts,), False)
        self.shows(house, {text: None for text in texts}, False)
        self.shows(house, "\n".join(texts), False)

    def test_of_one_house(self):
        house = house_of(("pause",))
        self.all_about(house, (str(house),))

    def test_of_several(self):
        house = parted([("say", 1)], [("say", 2), ("end", 3)])
        self.all_about(house, reached(house))

    def test_of_one_that_has_stepped(self):
        house = line_of(5)
        texts = reached(house)
        house.step(())
        self.shows(house, texts, False)
        self.shows(house, reached(house), True)

    def test_of_another_house(self):
        self.shows(line_of(4), reached(line_of(5)), False)
        self.shows(line_of(5), reached(line_of(4)), False)

    def test_anything(self):
        for house in (house_of(("pause",)), line_of(5), ever_more()):
            for thing in [*anything(), nested(tuple, 20), nested(list, 20), (nested(tuple, 19), nested(list, 19)), house]:
                self.shows(house, thing, False)

    def test_of_more_than_2000(self):
        many = House(book_of(
            a=[("fork",), ("if", 0, "c"), ("exec", "d"), "c", ("exec", "e")],
            d=[*says(39), ("pause",)], e=[*says(39), ("exec", "f")], f=[*says(8), ("pause",)],
        ), "a")
        texts = reached(many, most=10000)
        self.assertGreater(len(texts), 2000)
        self.shows(many, texts, True)
        self.shows(many, texts[:-1], False)
        self.shows(many, texts[1:], False)
        self.shows(many, texts + texts[-1:], False)
        self.shows(many, texts[:2000], False)
        self.shows(many, (*texts[:7], texts[8], texts[7], *texts[9:]), False)

    def test_where_ever_more_come(self):
        house = ever_more()
        texts = [str(house)]
        twin = house.twin()
        for _ in range(40):
            for name in twin.names()[::-1]:
                twin.step(name)
                texts.append(str(twin))
        for thing in (tuple(sorted(set(texts))), (str(house),), (), tuple(str(number) for number in range(1000, 4000))):
            self.shows(house, thing, False)
        self.shows(house_of(("fork",), ("goto", 0)), tuple(sorted(set(texts))), False)


if __name__ == "__main__":
    unittest.main()
