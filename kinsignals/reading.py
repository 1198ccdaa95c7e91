"""Books read from their texts."""

from kinsignals.errors import NoBook, NoText
from kinsignals.programs import FORMS, is_book
from kinsignals.words import read_number, read_words


def read_wait(words):
    """A row wait, out of the words behind that one; None where they have not its form."""
    stops = words[1:] == ["stops"]
    if not stops and len(words) != 1:
        return None
    if words[0] == "any":
        return ("wait", None, stops)
    child = read_number(words[0])
    return None if child is None else ("wait", child, stops)


def read_handle(words):
    """A row handle, out of the words behind that one; None where they have not its form."""
    if len(words) == 2 and words[1] in ("plain", "ignore"):
        parts = read_words(("signal",), words[:1])
        return None if parts is None else ("handle", parts[0], words[1])
    parts = read_words(("signal", "row", "signals"), words)
    return None if parts is None else ("handle", parts[0], (parts[1], parts[2]))


def read_row(words):
    """A program's row out of its words, None where they have none of the forms."""
    if words[0] not in FORMS:
        return None
    if words[0] == "wait":
        return read_wait(words[1:])
    if words[0] == "handle":
        return read_handle(words[1:])
    parts = read_words(FORMS[words[0]], words[1:])
    return None if parts is None else (words[0], *parts)


def lacks_rows(programs):
    """Whether the last program has no rows yet."""
    return len(programs) > 0 and len(programs[-1][1]) == 0


def add_program(programs, words, at):
    """Begins a program with the words behind its first one."""
    parts = read_words(("title",), words)
    if parts is None or lacks_rows(programs):
        raise NoText(at)
    programs.append((parts[0], []))


def add_row(programs, words, at):
    """Puts a row behind those of the last program."""
    row = read_row(words)
    if row is None or len(programs) == 0:
        raise NoText(at)
    programs[-1][1].append(row)


def read_programs(lines):
    """The programs whose text these lines are, each a title and a list of rows."""
    programs = []
    for at, line in enumerate(lines):
        words = line.split(" ")
        if words[0] == "program":
            add_program(programs, words[1:], at)
        else:
            add_row(programs, words, at)
    # Each text has a row, if an empty one, so that there is a program here.
    if lacks_rows(programs):
        raise NoText(len(lines))
    return programs


def read_book(text):
    """The book whose text this is; text may be anything."""
    if not isinstance(text, str):
        raise NoText(0)
    programs = read_programs(text.split("\n"))
    book = tuple([(title, tuple(rows)) for title, rows in programs])
    if not is_book(book):
        raise NoBook()
    return book
