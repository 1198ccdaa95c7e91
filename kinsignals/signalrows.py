"""The rows of signals: send, mask, unmask, handle, return, pause."""

from kinsignals.family import living_in, own_child
from kinsignals.persons import go_on, lack
from kinsignals.sending import let_fall, send_each
from kinsignals.signals import SIGNALS, rising


def receivers(house, name, to):
    """The names of those to whom a signal is sent, rising."""
    person = house.people[name]
    if to == "group":
        return living_in(house, person.group)
    one = name
    if to == "parent":
        one = person.parent
    elif to != "self":
        one = own_child(house, name, to)
    return [] if one is None else [one]


def do_send(house, name, row):
    person = house.people[name]
    names = receivers(house, name, row[2])
    if len(names) == 0:
        return lack(name, person)
    go_on(person, 0)
    return [("sent", name, row[1])] + send_each(house, names, row[1])


def put_mask(name, person, signals):
    person.mask = signals
    go_on(person, 0)
    return [("mask", name, signals)]


def do_mask(house, name, row):
    person = house.people[name]
    return put_mask(name, person, rising((*person.mask, *row[1])))


def do_unmask(house, name, row):
    person = house.people[name]
    return put_mask(name, person, tuple([signal for signal in person.mask if signal not in row[1]]))


def do_handle(house, name, row):
    person = house.people[name]
    wishes = {signal: how for signal, how in person.handlers}
    wishes[row[1]] = row[2]
    handled = [(signal, wishes[signal]) for signal in SIGNALS if signal in wishes]
    person.handlers = tuple([pair for pair in handled if pair[1] != "plain"])
    go_on(person, 0)
    return [("handle", name, row[1])] + let_fall(name, person)


def do_return(house, name, row):
    person = house.people[name]
    if len(person.pile) == 0:
        return lack(name, person)
    back, mask = person.pile[-1]
    person.row = back
    person.mask = mask
    person.pile = person.pile[:-1]
    return [("return", name)]


def do_pause(house, name, row):
    return [("idle", name, "pauses")]


SIGNAL_ROWS = {
    "send": do_send,
    "mask": do_mask,
    "unmask": do_unmask,
    "handle": do_handle,
    "return": do_return,
    "pause": do_pause,
}
