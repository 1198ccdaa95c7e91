"""All that can come of a house: reached, script_to, stills."""

import itertools
import random
import unittest

from chances import some_house
from kinsignals.errors import KinError, TooMany
from kinsignals.houses import House
from kinsignals.reaching import MOST, reached, script_to, stills
from kinsignals.scripts import walk
from kinsignals.stillness import still
from scenes import Case, Node, book_of, ever_more, grown, house_of, line_of, parted, picture, run, says

P, C, D = (), (0,), (1,)


def pair_of(ahead, one, other):
    """Two processes behind some rows: one goes so many steps and then pauses, the other one so many, too."""
    return house_of(
        *says(ahead), ("fork",), ("if", 0, "child"), *says(one), ("pause",), "child", *says(other), ("pause",),
    )


def count_of_pair(ahead, one, other):
    # Ahead of the fork, then each place of the one (its if, its rows, its pause) with each of the other one.
    return ahead + 1 + (one + 2) * (other + 2)


def houses_by_looking(house, most=500):
    """Each house that comes, with its least script, found by trying all scripts of names, the shortest first."""
    found, scripts = {str(house): ()}, [()]
    houses = {(): house.twin()}
    while scripts:
        longer = []
        for script in sorted(scripts):
            for name in houses[script].names():
                twin = houses[script].twin()
                twin.step(name)
                if str(twin) not in found:
                    found[str(twin)] = (*script, name)
                    houses[*script, name] = twin
                    longer.append((*script, name))
                    if len(found) > most:
                        return None
        scripts = longer
    return {text: (script, houses[script]) for text, script in found.items()}


class Reached(Case):
    def test_the_constant(self):
        self.assertEqual(MOST, 2000)
        self.assertIs(MOST.__class__, int)

    def test_nobody_can_go(self):
        for rows in ([("pause",)], [("end", 1)], [("read",)]):
            house = house_of(*rows)
            self.assertEqual(reached(house), (str(house),))
            self.assertIs(reached(house).__class__, tuple)
            self.assertEqual(reached(house, most=1), (str(house),))
            self.assertRaises(TooMany, reached, house, most=0)

    def test_one_process(self):
        house = house_of(("say", 1), ("say", 2))
        texts = [str(house)]
        for _ in range(2):
            run(house, P)
            texts.append(str(house))
        again = house_of(("say", 1), ("say", 2))
        self.assertEqual(reached(again), tuple(sorted(texts)))

    def test_a_circle(self):
        self.assertEqual(len(reached(house_of(("goto", 0)))), 1)
        self.assertEqual(len(reached(house_of(("goto", 1), ("goto", 0)))), 2)

    def test_several(self):
        house = parted([("say", 1)], [("say", 2), ("end", 3)])
        # The first one's two places, with each of the child's three.
        self.assertEqual(len(reached(house)), 6)
        places = set()
        for text in reached(house):
            rows = [row.split(" ") for row in text.split("\n")]
            places.add((rows[1][8], rows[2][8], rows[2][5]))
        self.assertEqual(len(places), 6)

    def test_from_where_it_stands(self):
        house = line_of(5)
        run(house, P, P)
        self.assertEqual(len(reached(house)), 3)

    def test_no_puts_and_no_keys(self):
        house = house_of(("read",), typed=(7,))
        self.assertEqual(len(reached(house)), 2)

    def test_most(self):
        house = pair_of(2, 3, 4)
        many = count_of_pair(2, 3, 4)
        texts = reached(house)
        self.assertEqual(len(texts), many)
        seen = picture(house)
        self.assertEqual(reached(house, most=many), texts)
        self.assertEqual(reached(house, most=many + 1), texts)
        for most in (many - 1, 1, 0):
            self.assertRaises(TooMany, reached, house, most=most)
            self.assertRaises(TooMany, stills, house, most=most)
            self.assertRaises(TooMany, script_to, house, texts[0], most=most)
        self.assertEqual(picture(house), seen)

    def test_most_goes_by_its_name_alone(self):
        house = house_of(("pause",))
        self.assertRaises(TypeError, reached, house, 1)
        self.assertRaises(TypeError, stills, house, 1)
        self.assertRaises(TypeError, script_to, house, str(house), 1)

    def test_2000_houses(self):
        house = self.big(0)
        texts = reached(house)
        self.assertEqual(len(texts), 2000)
        self.assertEqual(list(texts), sorted(set(texts)))
        self.assertEqual(len(stills(house)), 1)
        self.assertEqual(script_to(house, str(house)), ())

    def test_2001_houses(self):
        house = self.big(1)
        seen = picture(house)
        self.assertRaises(TooMany, reached, house)
        self.assertRaises(TooMany, stills, house)
        self.assertRaises(TooMany, script_to, house, str(house))
        self.assertEqual(picture(house), seen)
        self.assertEqual(len(reached(house, most=2001)), 2001)

    def big(self, more):
        """Of it come 2000 houses, and so many more: 40 up to the fork, and 56 times 35 behind it."""
        return House(book_of(
            a=[*says(38 + more), ("exec", "b")],
            b=[("fork",), ("if", 0, "c"), ("exec", "d"), "c", ("exec", "e")],
            d=[*says(36), ("exec", "f")],
            e=[*says(32), ("pause",)],
            f=[*says(16), ("pause",)],
        ), "a")

    def test_ever_more(self):
        house = ever_more()
        seen = picture(house)
        for doing in (reached, stills):
            self.assertRaises(TooMany, doing, house)
            self.assertRaises(TooMany, doing, house, most=10)
        self.assertRaises(TooMany, script_to, house, str(house))
        self.assertRaises(TooMany, script_to, house, "")
        self.assertEqual(picture(house), seen)
        forks = house_of(("fork",), ("goto", 0))
        self.assertRaises(TooMany, reached, forks)
        piles = house_of(("handle", "call", (1, ())), ("unmask", ("call",)), ("send", "call", "self"))
        self.assertRaises(TooMany, reached, piles)

    def test_the_refusal(self):
        with self.assertRaises(KinError) as caught:
            reached(house_of(("pause",)), most=0)
        self.assertIs(caught.exception.__class__, TooMany)

    def test_the_house_stays(self):
        house = grown(Node([("send", "halt", 0), ("wait", None, True)], Node([("read",), ("end", 1)])), typed=(1,))
        seen = picture(house)
        texts = reached(house)
        script_to(house, texts[-1])
        stills(house)
        self.assertEqual(picture(house), seen)
        # And what was told stays when the house steps on.
        run(house, P, C)
        self.assertNotEqual(picture(house), seen)
        self.assertIn(str(house), texts)
        self.assertLess(len(reached(house)), len(texts))

    def test_a_closed_set_each_with_its_least_script_by_many_houses(self):
        looked = several = 0
        for seed in range(400):
            house = some_house(random.Random(f"reached {seed}"))
            found = houses_by_looking(house, 120)
            if found is None:
                self.assertRaises(TooMany, reached, house, most=120)
                continue
            looked += 1
            texts = reached(house)
            self.assertEqual(texts, tuple(sorted(found)))
            for text, (script, there) in found.items():
                self.assertEqual(str(there), text)
                for name in there.names():
                    twin = there.twin()
                    twin.step(name)
                    self.assertIn(str(twin), found)
            for text in random.Random(seed).sample(texts, min(4, len(texts))):
                told = script_to(house, text)
                self.assertEqual(told, found[text][0])
                twin = house.twin()
                walk(twin, told)
                self.assertEqual(twin, found[text][1])
            quiet = tuple(text for text in texts if still(found[text][1]) is not None)
            self.assertEqual(stills(house), quiet)
            several += len(texts) > 10
        self.assertGreater(looked, 60)
        self.assertGreater(several, 25)


class ScriptTo(Case):
    def test_its_own_text(self):
        for house in (house_of(("pause",)), house_of(("goto", 0)), line_of(4)):
            self.assertEqual(script_to(house, str(house)), ())
            self.assertIs(script_to(house, str(house)).__class__, tuple)

    def test_none(self):
        house = line_of(4)
        later = line_of(4)
        run(later, P, P)
        for text in ("", "done", str(house) + "\n", str(house_of(("pause",), typed=(1,)))):
            self.assertIsNone(script_to(house, text))
        # What lies behind leads not back.
        self.assertIsNone(script_to(later, str(house)))
        self.assertEqual(script_to(house, str(later)), (P, P))

    def test_the_shortest(self):
        house = parted(["a", ("goto", "b"), ("say", 1), "b", ("goto", "a")], [("say", 1)])
        there = house.twin()
        run(there, P, P, P, C, P, P)
        self.assertEqual(script_to(house, str(there)), (P, C))

    def test_the_first_of_several(self):
        house = grown(Node([("say", 1)], Node([("say", 1)]), Node([("say", 1)])))
        there = house.twin()
        run(there, D, C, P)
        scripts = []
        for script in itertools.permutations((P, C, D)):
            twin = house.twin()
            walk(twin, script)
            self.assertEqual(twin, there)
            scripts.append(script)
        self.assertEqual(script_to(house, str(there)), min(scripts))
        self.assertEqual(script_to(house, str(there)), (P, C, D))

    def test_as_tuples_rise_and_not_as_texts_do(self):
        family = Node([], *[Node([]) for _ in range(2)], Node([("say", 1)]), *[Node([]) for _ in range(7)], Node([("say", 1)]))
        house = grown(family)
        there = house.twin()
        run(there, (10,), (2,))
        self.assertEqual(script_to(house, str(there)), ((2,), (10,)))

    def test_no_step_that_idles(self):
        house = parted([], [("say", 1), ("say", 1)])
        there = house.twin()
        run(there, P, C, P, C, P)
        self.assertEqual(script_to(house, str(there)), (C, C))

    def test_too_many_also_where_it_is_found_ahead(self):
        house = line_of(20)
        there = house.twin()
        run(there, P)
        for text in (str(house), str(there)):
            self.assertRaises(TooMany, script_to, house, text, most=19)
            self.assertIsNotNone(script_to(house, text, most=20))
        self.assertRaises(TooMany, script_to, house, str(house), most=0)


class Stills(Case):
    def test_none(self):
        self.assertEqual(stills(house_of(("goto", 0))), ())
        self.assertEqual(stills(house_of(("goto", 1), ("say", 1), ("goto", 0))), ())

    def test_some(self):
        house = line_of(4)
        end = house.twin()
        run(end, P, P, P)
        self.assertEqual(stills(house), (str(end),))
        self.assertIs(stills(house).__class__, tuple)

    def test_several_rising(self):
        # Which of two children reads the one number is for the script to say.
        house = grown(Node([], Node([("read",), ("end", 1)]), Node([("read",), ("end", 1)])), typed=(5,))
        told = stills(house)
        self.assertEqual(len(told), 2)
        self.assertEqual(list(told), sorted(told))
        for text in told:
            twin = house.twin()
            walk(twin, script_to(house, text))
            self.assertEqual({word for name, word in still(twin)}, {"pauses", "ended", "reads"})

    def test_all(self):
        house = parted([("pause",)], [("pause",)])
        self.assertEqual(stills(house), (str(house),))
        self.assertEqual(stills(house), reached(house))

    def test_too_many(self):
        self.assertRaises(TooMany, stills, house_of(("goto", 0)), most=0)
        self.assertEqual(stills(house_of(("goto", 0)), most=1), ())


if __name__ == "__main__":
    unittest.main()
