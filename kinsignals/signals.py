"""The nine signals, in the order in which they rise."""

from kinsignals.values import is_one_of

SIGNALS = ("kill", "halt", "on", "hang", "quit", "call", "kin", "rest", "reads")

# The sure signals are never masked, handled or let fall by a wish.
SURE = ("kill", "halt")

# What a signal that is handled plainly does to who gets it; those in neither do nothing more.
ENDINGS = ("kill", "hang", "quit", "call")
STOPS = ("halt", "rest", "reads")


def is_signal(thing):
    """Whether thing is one of the nine signals."""
    return is_one_of(thing, SIGNALS)


def is_loose(thing):
    """Whether thing is a signal that isn't sure."""
    return is_signal(thing) and thing not in SURE


def are_loose(thing):
    """Whether thing is a rising tuple of signals of which none is sure."""
    if not isinstance(thing, tuple):
        return False
    least = 0
    for signal in thing:
        if not is_loose(signal):
            return False
        place = SIGNALS.index(signal)
        if place < least:
            return False
        least = place + 1
    return True


def rising(signals):
    """These signals, each once, in the order in which they rise."""
    return tuple([signal for signal in SIGNALS if signal in signals])
