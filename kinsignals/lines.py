"""The lines that a desk takes: what they say by their form alone."""

from kinsignals.errors import NoLine
from kinsignals.programs import is_title
from kinsignals.words import read_words

BOOK = "book "

# The kinds of the words behind the first one; those of house and step may be more.
LINES = {
    "put": ("name", "whole"),
    "key": ("name", "signal"),
    "who": (),
    "person": ("name",),
    "why": ("name",),
    "still": (),
    "meet": ("name", "name"),
    "reached": (),
}


def kinds_of(word, many):
    """The kinds of the words behind a line's first one, if these are so many; None where there is no such line."""
    if word == "house" and many > 0:
        return ("title",) + ("whole",) * (many - 1)
    if word == "step" and many > 0:
        return ("name",) * many
    return LINES[word] if word in LINES else None


def read_line(line):
    """A line's first word, and the list of what stands behind it; line may be anything."""
    if not isinstance(line, str):
        raise NoLine()
    if line.startswith(BOOK):
        return "book", [line[len(BOOK):]]
    words = line.split(" ")
    kinds = kinds_of(words[0], len(words) - 1)
    parts = None if kinds is None else read_words(kinds, words[1:])
    if parts is None or words[0] == "house" and not is_title(parts[0]):
        raise NoLine()
    return words[0], parts
