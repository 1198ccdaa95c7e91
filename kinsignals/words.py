"""Words of texts, read: numbers, names, titles, signals."""

from kinsignals.signals import SIGNALS

FIGURES = "0123456789"
MOST_FIGURES = 9

# The words that may stand where a child's number may, or alone.
CHOICES = {
    "who": ("self",),
    "to": ("self", "parent", "group"),
    "where": ("new", "mine"),
}


def is_number(word):
    """Whether a word is a number of 1 to 9 plain figures, with no 0 ahead but in 0."""
    # How long it is comes first, since Python refuses to read very long numbers.
    if not 1 <= len(word) <= MOST_FIGURES:
        return False
    if len(word) > 1 and word[0] == "0":
        return False
    return all([sign in FIGURES for sign in word])


def is_signed_number(word):
    """Whether a word is such a number, or one below nought with - ahead."""
    if word[:1] != "-":
        return is_number(word)
    return word != "-0" and is_number(word[1:])


def read_number(word):
    return int(word) if is_number(word) else None


def read_whole(word):
    return int(word) if is_signed_number(word) else None


def read_letters(word):
    """One or more letters a to z; how many a title may have is asked elsewhere."""
    if len(word) == 0 or not all(["a" <= sign <= "z" for sign in word]):
        return None
    return word


def read_name(word):
    if word == "/":
        return ()
    parts = word.split(".")
    if not all([is_number(part) for part in parts]):
        return None
    return tuple([int(part) for part in parts])


def read_signal(word):
    return word if word in SIGNALS else None


def read_signals(word):
    """Signals with , between; whether they rise, and whether some are sure, is asked elsewhere."""
    if word == "-":
        return ()
    signals = tuple(word.split(","))
    return signals if all([signal in SIGNALS for signal in signals]) else None


def read_choice(kind, word):
    if word in CHOICES[kind]:
        return word
    return None if kind == "where" else read_number(word)


# How a word of each kind is read; the kinds of CHOICES apart.
READERS = {
    "title": read_letters,
    "small": read_number,
    "row": read_number,
    "whole": read_whole,
    "name": read_name,
    "signal": read_signal,
    "signals": read_signals,
}


def read_word(kind, word):
    """What a word of this kind stands for, None where it has not that form."""
    if kind in CHOICES:
        return read_choice(kind, word)
    doing = READERS[kind]
    return doing(word)


def read_words(kinds, words):
    """What the words stand for, each of its kind, None where one has not that form or there are too many or too few."""
    if len(words) != len(kinds):
        return None
    parts = [read_word(kind, word) for kind, word in zip(kinds, words)]
    return None if None in parts else parts
