"""What happens to a signal on its way: it falls, is merged, is held, or looses others."""

from kinsignals.persons import handling
from kinsignals.signals import ENDINGS, STOPS, rising


def falls_at_once(name, person, signal):
    """Whether a signal falls ahead of all else: at one that ended, and where it would end or stop the first one."""
    if person.how == "ended":
        return True
    if name != () or handling(person, signal) != "plain":
        return False
    return signal in ENDINGS or signal in STOPS


def falls_by_handling(person, signal):
    """Whether a signal falls by a wish, or since it does nothing by itself."""
    how = handling(person, signal)
    return how == "ignore" or how == "plain" and signal in ("on", "kin")


def keep(name, person, signal):
    """The last part of sending: a signal falls, is held already, or is held now."""
    if falls_by_handling(person, signal):
        return [("fell", name, signal)]
    if signal in person.held:
        return [("merged", name, signal)]
    person.held = rising((*person.held, signal))
    return [("held", name, signal)]


def drop(person, signals):
    """These signals are held no more."""
    person.held = tuple([signal for signal in person.held if signal not in signals])


def loosen(name, person, signals):
    """Those of these signals that are held are held no more, by a signal that is their contrary."""
    loose = [signal for signal in person.held if signal in signals]
    drop(person, loose)
    return [("loosed", name, signal) for signal in loose]


def send_on(house, name, person):
    """Sends on to one that lives: it calls back the stops, and who is stopped runs anew."""
    events = loosen(name, person, STOPS)
    if person.how != "stopped":
        return events + keep(name, person, "on")
    person.how = "runs"
    person.news = "on"
    events.append(("on", name))
    events.extend(send(house, person.parent, "kin"))
    # Where it made one run it has done its work, so that it falls untold unless a handler is to begin.
    if not falls_by_handling(person, "on"):
        events.extend(keep(name, person, "on"))
    return events


def send(house, name, signal):
    """Sends a signal to one that is there, and tells the events."""
    person = house.people[name]
    if falls_at_once(name, person, signal):
        return [("fell", name, signal)]
    if signal == "on":
        return send_on(house, name, person)
    events = []
    if signal in STOPS:
        events.extend(loosen(name, person, ("on",)))
    return events + keep(name, person, signal)


def send_each(house, names, signal):
    """Sends a signal to each of these, one after the other."""
    events = []
    for name in names:
        events.extend(send(house, name, signal))
    return events


def hang_up(house, names):
    """Calls those that are left alone: hang to each of these, then on to each."""
    return send_each(house, names, "hang") + send_each(house, names, "on")


def let_fall(name, person):
    """Behind a change of handlers: what is held and would fall, were it sent now, falls."""
    fallen = [
        signal for signal in person.held
        if falls_at_once(name, person, signal) or falls_by_handling(person, signal)
    ]
    drop(person, fallen)
    return [("fell", name, signal) for signal in fallen]
