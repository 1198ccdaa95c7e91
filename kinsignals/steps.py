"""One step of a house: what is decided, in which order, and what is looked after at its end."""

from kinsignals.delivering import deliver
from kinsignals.ending import bare
from kinsignals.family import living_in, next_row, orphans
from kinsignals.grouprows import GROUP_ROWS
from kinsignals.kinrows import KIN_ROWS
from kinsignals.plainrows import PLAIN_ROWS
from kinsignals.sending import hang_up, send_each
from kinsignals.signalrows import SIGNAL_ROWS
from kinsignals.signals import is_signal
from kinsignals.values import is_name, is_one_of, is_small


def is_call(thing):
    """Whether thing has the form of what comes from outside: ("put", session, n) or ("key", session, signal)."""
    if not isinstance(thing, tuple) or len(thing) != 3 or not is_name(thing[1]):
        return False
    if is_one_of(thing[0], ("put",)):
        return is_small(thing[2])
    return is_one_of(thing[0], ("key",)) and is_signal(thing[2])


def do_row(house, name):
    row = next_row(house, house.people[name])
    word = row[0]
    if word in PLAIN_ROWS:
        doing = PLAIN_ROWS[word]
    elif word in KIN_ROWS:
        doing = KIN_ROWS[word]
    elif word in GROUP_ROWS:
        doing = GROUP_ROWS[word]
    else:
        doing = SIGNAL_ROWS[word]
    return doing(house, name, row)


def signal_due(person):
    """The signal that a process's next step delivers, None where it delivers none."""
    # One that has ended holds nothing, and kill is never masked; a stopped one gets no other signal.
    if person.how == "stopped":
        return "kill" if "kill" in person.held else None
    ready = [signal for signal in person.held if signal not in person.mask]
    return ready[0] if len(ready) > 0 else None


def row_due(house, name):
    """The row that a process's next step does, None where it does no row."""
    person = house.people[name]
    if person.how != "runs" or signal_due(person) is not None:
        return None
    return next_row(house, person)


def step_one(house, name):
    """A process steps."""
    person = house.people[name]
    signal = signal_due(person)
    if signal is not None:
        return deliver(house, name, signal)
    if person.how != "runs":
        return [("idle", name, person.how)]
    return do_row(house, name)


def put_number(house, session, number):
    """A number is typed in a session."""
    house.queues[session] = (*house.queues[session], number)
    return [("typed", session, number)]


def key_signal(house, session, signal):
    """A signal is sent to who is in front of a session."""
    front = house.fronts[session]
    names = [] if front is None else living_in(house, front)
    return [("keyed", session, signal)] + send_each(house, names, signal)


def bare_fronts(house):
    """Each front in which no one lives is None."""
    events = []
    for session in sorted(list(house.fronts)):
        front = house.fronts[session]
        if front is not None and len(living_in(house, front)) == 0:
            events.extend(bare(house, session))
    return events


def call_orphans(house, orphans_ahead):
    """Each group that is an orphan only now, and in which one is stopped, is called."""
    events = []
    for group in orphans(house):
        names = living_in(house, group)
        stopped = [name for name in names if house.people[name].how == "stopped"]
        if group not in orphans_ahead and len(stopped) > 0:
            events.extend(hang_up(house, names))
    return events


def take_step(house, entry):
    """Does what an entry says, whose name or session is there."""
    orphans_ahead = orphans(house)
    if is_name(entry):
        events = step_one(house, entry)
    elif entry[0] == "put":
        events = put_number(house, entry[1], entry[2])
    else:
        events = key_signal(house, entry[1], entry[2])
    return events + bare_fronts(house) + call_orphans(house, orphans_ahead)
