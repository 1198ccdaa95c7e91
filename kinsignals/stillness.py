"""Who can't go on, and why."""

from kinsignals.family import next_row
from kinsignals.kinrows import awaited


def idle_word(events):
    """The word by which a process's step idled, None where it didn't."""
    return events[0][2] if events[0][0] == "idle" else None


def why(house, name):
    """Why the next step of this one idles, None where it doesn't."""
    # A step is refused in other ways than a look at a person.
    house.person(name)
    return idle_word(house.twin().step(name))


def still(house):
    """Each one's reason where nobody can go, None where some one can."""
    # A step that idles changes nothing, so one twin will do for all.
    other = house.twin()
    words = []
    for name in other.names():
        word = idle_word(other.step(name))
        if word is None:
            return None
        words.append((name, word))
    return tuple(words)


def least_awaited(house, name):
    """The least child for which one that waits waits; all of these live, else the wait had something to tell."""
    row = next_row(house, house.people[name])
    return awaited(house, name, row[1])[0]


def chain(house, name):
    """From this one on, each next one the least child for which the one ahead waits."""
    names = [name]
    while why(house, names[-1]) == "waits":
        names.append(least_awaited(house, names[-1]))
    return tuple(names)
