"""The rows of kin: fork, taker, end, wait."""

from kinsignals.ending import end
from kinsignals.family import children_of, own_child
from kinsignals.persons import child_of, go_on, lack
from kinsignals.signals import SIGNALS

# What last is behind a wait that was told of a signal's end, added to the signal's place, or of news.
ENDED_BY_SIGNAL = 100
LAST_OF_NEWS = {"stopped": 200, "on": 300}


def do_fork(house, name, row):
    person = house.people[name]
    child = (*name, person.born)
    house.people[child] = child_of(name, person)
    person.born += 1
    go_on(person, person.born)
    return [("fork", name, child)]


def do_taker(house, name, row):
    person = house.people[name]
    person.taker = True
    go_on(person, 0)
    return [("taker", name)]


def do_end(house, name, row):
    if name == ():
        return [("idle", name, "rests")]
    return end(house, name, row[1])


def awaited(house, name, which):
    """The children for which a wait waits, rising."""
    if which is None:
        return children_of(house, name)
    child = own_child(house, name, which)
    return [] if child is None else [child]


def has_word(person, stops):
    """Whether a wait can be told of this child: of its end or, if stops are asked for, of its news."""
    return person.how == "ended" or stops and person.news is not None


def number_of(word):
    """What last is behind a wait that was told of an end."""
    if isinstance(word, int):
        return word
    return ENDED_BY_SIGNAL + SIGNALS.index(word)


def tell(house, name, child):
    """A wait is told of this child: of its end, whatever news it has, else of its news."""
    person = house.people[name]
    told = house.people[child]
    if told.how == "ended":
        del house.people[child]
        go_on(person, number_of(told.word))
        return [("told", name, child, told.word)]
    news = told.news
    told.news = None
    go_on(person, LAST_OF_NEWS[news])
    return [("told", name, child, news)]


def do_wait(house, name, row):
    children = awaited(house, name, row[1])
    if len(children) == 0:
        return lack(name, house.people[name])
    ready = [child for child in children if has_word(house.people[child], row[2])]
    if len(ready) == 0:
        return [("idle", name, "waits")]
    return tell(house, name, ready[0])


KIN_ROWS = {
    "fork": do_fork,
    "taker": do_taker,
    "end": do_end,
    "wait": do_wait,
}
