"""What an entry's step touches, and which entries meet."""

from kinsignals.family import living_in
from kinsignals.grouprows import called_by_read, is_in_front, one_meant
from kinsignals.signalrows import receivers
from kinsignals.signals import SIGNALS, STOPS
from kinsignals.steps import row_due
from kinsignals.values import is_name

# From the weakest to the strongest.
MODES = ("read", "add", "write")

# What an entry touches that cannot be exchanged with any other one.
ALL_WRITTEN = ((("all",), "write"),)


def touch(cells, cell, mode):
    """A cell is touched: of several modes the strongest is kept."""
    if cell not in cells or MODES.index(cells[cell]) < MODES.index(mode):
        cells[cell] = mode


def touch_sent(cells, name, signal):
    """A signal is sent to this one; on and the stops call one another back, so they go together."""
    touch(cells, ("own", name), "read")
    signals = ("on", *STOPS) if signal == "on" or signal in STOPS else (signal,)
    for other in signals:
        touch(cells, ("mail", name, other), "write")


def touch_turned(cells, house, name):
    """This one stops or runs anew, and kin is sent to its parent."""
    parent = house.people[name].parent
    touch(cells, ("own", name), "write")
    touch(cells, ("kin", parent), "write")
    touch_sent(cells, parent, "kin")


def touch_fork(cells, house, name, row):
    person = house.people[name]
    touch(cells, ("group", person.group), "add")
    touch(cells, ("kin", name), "write")
    touch(cells, ("own", (*name, person.born)), "write")


def touch_wait(cells, house, name, row):
    touch(cells, ("kin", name), "write")


def touch_read(cells, house, name, row):
    person = house.people[name]
    touch(cells, ("front", person.session), "read")
    touch(cells, ("group", person.group), "read")
    touch(cells, ("typed", person.session), "write")
    if not is_in_front(house, person):
        for other in called_by_read(house, name):
            touch_sent(cells, other, "reads")


def touch_front(cells, house, name, row):
    touch(cells, ("front", house.people[name].session), "write")
    meant = one_meant(house, name, row[1])
    if meant is not None:
        touch(cells, ("own", meant), "read")


def touch_send(cells, house, name, row):
    if row[2] == "group":
        touch(cells, ("group", house.people[name].group), "read")
    for other in receivers(house, name, row[2]):
        touch_sent(cells, other, row[1])


# The rows that touch more than what is their process's own.
WIDE_ROWS = {
    "fork": touch_fork,
    "wait": touch_wait,
    "read": touch_read,
    "front": touch_front,
    "send": touch_send,
}


def touch_step(cells, house, name):
    """A process steps."""
    touch(cells, ("own", name), "write")
    for signal in SIGNALS:
        touch(cells, ("mail", name, signal), "write")
    row = row_due(house, name)
    if row is not None and row[0] in WIDE_ROWS:
        doing = WIDE_ROWS[row[0]]
        doing(cells, house, name, row)


def touch_key(cells, house, session, signal):
    """A signal is sent to who is in front."""
    touch(cells, ("front", session), "read")
    front = house.fronts[session]
    if front is not None:
        touch(cells, ("group", front), "read")
        for name in living_in(house, front):
            touch_sent(cells, name, signal)


def touch_events(cells, house, events):
    """What only the step's events tell: which child a wait was told of, who stopped, who ran anew."""
    for event in events:
        if event[0] == "told":
            touch(cells, ("own", event[2]), "write")
        elif event[0] == "on" or event[0] == "struck" and event[2] in STOPS:
            touch_turned(cells, house, event[1])


def touches_all(house, entry, events):
    """Whether an entry's step ends one, or does a row by which groups change."""
    if any([event[0] == "ended" for event in events]):
        return True
    row = row_due(house, entry) if is_name(entry) else None
    return row is not None and row[0] in ("session", "group")


def touched(house, entry):
    """The cells that an entry's step touches, each with its strongest mode."""
    events = house.twin().step(entry)
    if touches_all(house, entry, events):
        return ALL_WRITTEN
    cells = {}
    touch(cells, ("all",), "read")
    if is_name(entry):
        touch_step(cells, house, entry)
    elif entry[0] == "put":
        touch(cells, ("typed", entry[1]), "write")
    else:
        touch_key(cells, house, entry[1], entry[2])
    touch_events(cells, house, events)
    return tuple(sorted([(cell, cells[cell]) for cell in cells]))


def clash(mode, other):
    """Whether two modes of one cell meet: one writes, or one adds and one reads."""
    return "write" in (mode, other) or mode != other


def meet(house, one, other):
    """Whether two entries meet, so that they may not be exchanged."""
    ones = touched(house, one)
    others = {cell: mode for cell, mode in touched(house, other)}
    return any([cell in others and clash(mode, others[cell]) for cell, mode in ones])
