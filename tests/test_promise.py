"""The promise of every house behind every script, its parts (a) to (c), looked at by many scripts."""

import random
import unittest

from chances import MOST_PEOPLE, some_entry, some_house
from kinsignals.scripts import walk
from scenes import SIGNALS, THINGS, changes_between, picture

NEWS = ("stopped", "on")


def lives(people, name):
    return name in people and people[name]["how"] != "ended"


class Watcher:
    """Keeps, by the events alone, what was held, what handlers began, and whose ends were told."""

    def __init__(self, test):
        self.test = test
        self.held = {(): ()}
        self.piles = {(): ()}
        self.ever = {()}
        self.ended = set()
        self.over = set()

    def hear(self, event, ahead, behind):
        heard = getattr(self, "hear_" + event[0], None)
        if heard:
            heard(event, ahead, behind)

    def hear_fork(self, event, ahead, behind):
        name, child = event[1:]
        self.test.assertNotIn(child, self.ever)
        self.ever.add(child)
        self.held[child] = ()
        self.piles[child] = self.piles[name]

    def hear_held(self, event, ahead, behind):
        name, signal = event[1:]
        self.test.assertNotIn(name, self.ended)
        self.test.assertNotIn(signal, self.held[name])
        self.held[name] += (signal,)

    def hear_merged(self, event, ahead, behind):
        self.test.assertIn(event[2], self.held[event[1]])

    def lose(self, event):
        name, signal = event[1:]
        self.test.assertIn(signal, self.held[name])
        self.held[name] = tuple(other for other in self.held[name] if other != signal)

    def hear_loosed(self, event, ahead, behind):
        self.lose(event)

    def hear_fell(self, event, ahead, behind):
        if event[2] in self.held[event[1]]:
            self.lose(event)

    def delivered(self, event, ahead):
        name, signal = event[1:]
        self.test.assertNotIn(name, self.ended)
        self.test.assertNotIn(signal, ahead[name]["mask"])
        self.test.assertNotEqual((name, signal in ("kill", "halt")), ((), True))
        self.lose(event)

    def hear_begun(self, event, ahead, behind):
        self.delivered(event, ahead)
        self.piles[event[1]] += (ahead[event[1]]["mask"],)

    def hear_struck(self, event, ahead, behind):
        self.delivered(event, ahead)

    def hear_return(self, event, ahead, behind):
        name = event[1]
        self.test.assertEqual(behind[name]["mask"], self.piles[name][-1])
        self.piles[name] = self.piles[name][:-1]

    def hear_exec(self, event, ahead, behind):
        self.piles[event[1]] = ()

    def hear_ended(self, event, ahead, behind):
        name = event[1]
        self.test.assertNotEqual(name, ())
        self.test.assertNotIn(name, self.ended)
        self.ended.add(name)
        self.held[name] = self.piles[name] = ()

    def hear_told(self, event, ahead, behind):
        _, name, child, word = event
        self.test.assertEqual(ahead[child]["parent"], name)
        if word not in NEWS:
            self.end_is_over(child)

    def hear_let(self, event, ahead, behind):
        self.end_is_over(event[1])

    def end_is_over(self, name):
        self.test.assertIn(name, self.ended)
        self.test.assertNotIn(name, self.over)
        self.over.add(name)

    def look(self, people):
        """What the events told is what is there."""
        self.test.assertEqual(set(people), self.ever - self.over)
        self.test.assertEqual({name for name in people if people[name]["how"] == "ended"}, self.ended - self.over)
        for name, person in people.items():
            self.test.assertEqual(set(person["held"]), set(self.held[name]))
            self.test.assertEqual(tuple(mask for row, mask in person["pile"]), self.piles[name])


class Promise(unittest.TestCase):
    def people(self, house):
        return {name: dict(zip(THINGS, house.person(name))) for name in house.names()}

    def kin_are_in_order(self, people):
        for name, person in people.items():
            if name == ():
                self.assertEqual((person["parent"], person["how"]), (None, "runs"))
            else:
                self.assertTrue(lives(people, person["parent"]))
                self.assertLess(person["parent"], name)

    def places_are_in_order(self, house, people):
        sessions = {}
        for name, person in people.items():
            self.assertIn(person["session"], house.sessions())
            if lives(people, name):
                self.assertEqual(sessions.setdefault(person["group"], person["session"]), person["session"])
        for session in house.sessions():
            front = house.front(session)
            if front is not None:
                self.assertEqual(sessions[front], session)

    def signals_are_in_order(self, people):
        for name, person in people.items():
            handlers = dict(person["handlers"])
            for signals in (person["mask"], person["held"], tuple(handlers), *[mask for row, mask in person["pile"]]):
                self.assertEqual(signals, tuple(signal for signal in SIGNALS if signal in signals))
            for signals in (person["mask"], tuple(handlers)):
                self.assertFalse({"kill", "halt"} & set(signals))
            self.assertNotIn("plain", handlers.values())
            for signal in person["held"]:
                how = handlers.get(signal, "plain")
                self.assertNotEqual(how, "ignore")
                self.assertFalse(how == "plain" and (signal in ("on", "kin") or name == ()))
            self.assertFalse("on" in person["held"] and {"halt", "rest", "reads"} & set(person["held"]))

    def steps_are_in_order(self, house, entry, ahead):
        before = picture(house)
        events = house.step(entry)
        changes = changes_between(before, picture(house))
        if events[0][0] == "idle":
            self.assertEqual((len(events), changes), (1, {}))
        if events[0][0] == "lack":
            self.assertEqual((len(events), list(changes)), (1, [entry]))
            self.assertLessEqual(set(changes[entry]), {"row", "last"})
            self.assertEqual(house.person(entry)[6:8], (ahead[entry]["row"] + 1, -1))
        return events

    def look(self, chance, steps):
        house = some_house(chance)
        start, watcher, script, told = house.twin(), Watcher(self), [], []
        for _ in range(steps):
            if len(house) > MOST_PEOPLE:
                break
            ahead, entry = self.people(house), some_entry(chance, house)
            events = self.steps_are_in_order(house, entry, ahead)
            behind = self.people(house)
            for event in events:
                watcher.hear(event, ahead, behind)
            watcher.look(behind)
            self.assertEqual(picture(house.twin()), picture(house))
            self.kin_are_in_order(behind)
            self.places_are_in_order(house, behind)
            self.signals_are_in_order(behind)
            script.append(entry)
            told.append(events)
        # The same script tells the same once more, and leads to the same house.
        self.assertEqual(walk(start, tuple(script)), tuple(told))
        self.assertEqual(start, house)
        return {event[0] for events in told for event in events}

    def test_by_many_scripts(self):
        heard = set()
        for seed in range(400):
            with self.subTest(seed=seed):
                heard |= self.look(random.Random(seed), 120)
        # Each kind of event came up, so that the scripts look at all of the promise.
        self.assertEqual(heard, {
            "idle", "typed", "keyed", "said", "went", "exec", "fork", "taker", "ended", "taken", "let", "bare", "told",
            "session", "group", "front", "read", "fell", "loosed", "on", "merged", "held", "sent", "begun", "struck",
            "mask", "handle", "return", "lack",
        })


if __name__ == "__main__":
    unittest.main()
