"""A house rebuilt from its tale alone, and what happened to signals in it."""

from kinsignals.scripts import tale
from kinsignals.signals import STOPS, rising

# The words of what a wait can be told beside an end.
NEWS = ("stopped", "on")

# What can happen to a signal.
COUNTED = ("held", "merged", "fell", "loosed", "begun", "struck")


class Trace:
    """What the events tell of one that is there."""

    def __init__(self, parent, group, session, how, held):
        self.parent = parent
        self.group = group
        self.session = session
        self.how = how
        self.held = held


def trace_of(person):
    return Trace(person.parent, person.group, person.session, person.how, person.held)


def hear_fork(traces, event):
    parent = traces[event[1]]
    traces[event[2]] = Trace(event[1], parent.group, parent.session, "runs", ())


def hear_ended(traces, event):
    one = traces[event[1]]
    one.how = "ended"
    one.held = ()


def hear_taken(traces, event):
    one = traces[event[1]]
    one.parent = event[2]


def hear_let(traces, event):
    del traces[event[1]]


def hear_told(traces, event):
    # Who was told of by its end is there no more; no signal by which one ends has the name of news.
    if event[3] not in NEWS:
        del traces[event[2]]


def hear_session(traces, event):
    one = traces[event[1]]
    one.session = event[1]
    one.group = event[1]


def hear_group(traces, event):
    one = traces[event[1]]
    one.group = event[2]


def hear_held(traces, event):
    one = traces[event[1]]
    one.held = rising((*one.held, event[2]))


def hear_gone(traces, event):
    """A signal is held no more; one that fell as it was sent wasn't held."""
    one = traces[event[1]]
    one.held = tuple([signal for signal in one.held if signal != event[2]])


def hear_struck(traces, event):
    hear_gone(traces, event)
    if event[2] in STOPS:
        one = traces[event[1]]
        one.how = "stopped"


def hear_on(traces, event):
    one = traces[event[1]]
    one.how = "runs"


# The events that change what is rebuilt.
HEARD = {
    "fork": hear_fork,
    "ended": hear_ended,
    "taken": hear_taken,
    "let": hear_let,
    "told": hear_told,
    "session": hear_session,
    "group": hear_group,
    "held": hear_held,
    "fell": hear_gone,
    "loosed": hear_gone,
    "begun": hear_gone,
    "struck": hear_struck,
    "on": hear_on,
}


def hear(traces, event):
    if event[0] in HEARD:
        doing = HEARD[event[0]]
        doing(traces, event)


def rebuilt(house, events):
    """Who is there behind the steps that told these events from this house on: of whom, where, how, with what held."""
    traces = {name: trace_of(house.people[name]) for name in house.people}
    for event in tale(events):
        hear(traces, event)
    there = [(name, traces[name]) for name in sorted(list(traces))]
    return tuple([(name, one.parent, one.group, one.session, one.how, one.held) for name, one in there])


def counted(events):
    """How often signals were held, merged, fell, were loosed, begun and struck."""
    words = [event[0] for event in tale(events)]
    return tuple([words.count(word) for word in COUNTED])
