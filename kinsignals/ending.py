"""The end of a process: its children are taken up, it is told of, its session loses its front."""

from kinsignals.family import children_of, living_in
from kinsignals.persons import handling
from kinsignals.sending import hang_up, send


def taker_for(house, name):
    """Who takes up the children of this one: the nearest taker above it, else the first one."""
    above = house.people[name].parent
    while above != () and not house.people[above].taker:
        above = house.people[above].parent
    return above


def tell_of(house, name):
    """Tells the parent of one that has ended, which is let go where the parent ignores kin."""
    parent = house.people[name].parent
    if handling(house.people[parent], "kin") == "ignore":
        del house.people[name]
        return [("let", name)]
    return send(house, parent, "kin")


def hand_over(house, name):
    """Each child of this one gets another parent."""
    events = []
    taker = taker_for(house, name)
    children = children_of(house, name)
    for child in children:
        person = house.people[child]
        person.parent = taker
        events.append(("taken", child, taker))
        if person.how == "ended":
            events.extend(tell_of(house, child))
    return events


def bare(house, session):
    """A session's front is None from now on."""
    house.fronts[session] = None
    return [("bare", session)]


def leave_front(house, session):
    """A session's leader has ended: who is in front is called, and nobody is in front any more."""
    front = house.fronts[session]
    if front is None:
        return []
    return hang_up(house, living_in(house, front)) + bare(house, session)


def end(house, name, word):
    """Ends a process that is not the first one, by a number or by a signal."""
    person = house.people[name]
    person.how = "ended"
    person.word = word
    person.held = ()
    person.pile = ()
    events = [("ended", name, word)]
    events.extend(hand_over(house, name))
    # It may be there no more behind this, but its session still is.
    events.extend(tell_of(house, name))
    if person.session == name:
        events.extend(leave_front(house, name))
    return events
