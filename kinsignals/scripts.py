"""Scripts: who steps next, and what all these steps tell."""

from kinsignals.errors import NoScript
from kinsignals.values import is_name


def walk(house, script):
    """Steps a script's entries in this house; where one is refused, those ahead are stepped."""
    if not isinstance(script, tuple):
        raise NoScript()
    events = []
    for entry in script:
        events.append(house.step(entry))
    return tuple(events)


def tale(events):
    """All events of what walk tells, one behind another."""
    told = []
    for step_events in events:
        if isinstance(step_events, tuple):
            told.extend(step_events)
    return tuple(told)


def is_of(event, name):
    """Whether an event's second thing is this name."""
    if not isinstance(event, tuple) or len(event) < 2:
        return False
    # (True,) is equal to (1,) to Python, but is no name.
    return is_name(event[1]) and event[1] == name


def of_one(events, name):
    """Those events of what walk tells whose second thing is this name, a process's or a session's."""
    return tuple([event for event in tale(events) if is_of(event, name)])
