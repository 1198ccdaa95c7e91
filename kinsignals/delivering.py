"""What a signal does to who gets it."""

from kinsignals.ending import end
from kinsignals.family import next_row
from kinsignals.persons import handling
from kinsignals.sending import drop, send
from kinsignals.signals import STOPS, rising


def row_to_come_back_to(house, person):
    """The row that is done behind a handler: a pause has been long enough once a signal came."""
    return person.row + 1 if next_row(house, person) == ("pause",) else person.row


def begin_handler(house, name, signal, how):
    """A handler's rows are done next, with more signals masked, until it returns."""
    person = house.people[name]
    back = row_to_come_back_to(house, person)
    person.pile = (*person.pile, (back, person.mask))
    person.row = how[0]
    person.mask = rising((*person.mask, *how[1], signal))
    return [("begun", name, signal)]


def stop(house, name):
    """Stops a process, and calls its parent."""
    person = house.people[name]
    person.how = "stopped"
    person.news = "stopped"
    return send(house, person.parent, "kin")


def deliver(house, name, signal):
    """Delivers a signal that a process holds."""
    person = house.people[name]
    drop(person, (signal,))
    how = handling(person, signal)
    if how != "plain":
        return begin_handler(house, name, signal, how)
    events = [("struck", name, signal)]
    if signal in STOPS:
        return events + stop(house, name)
    return events + end(house, name, signal)
