"""Texts of books, of houses and of events."""

from kinsignals.errors import NoBook
from kinsignals.programs import is_book


def show_name(name):
    """A process's, group's or session's name."""
    return ".".join([str(number) for number in name]) if len(name) > 0 else "/"


def show_signals(signals):
    return ",".join(signals) if len(signals) > 0 else "-"


def show_numbers(numbers):
    return ",".join([str(number) for number in numbers]) if len(numbers) > 0 else "-"


def show_truth(truth):
    return "yes" if truth else "no"


def show_name_or_none(name):
    return "~" if name is None else show_name(name)


def show_word_or_none(word):
    """A number, a signal or another word, or None."""
    return "~" if word is None else str(word)


def show_handler(signal, how):
    if how == "ignore":
        return f"{signal}=ignore"
    return f"{signal}={how[0]}:{show_signals(how[1])}"


def show_handlers(handlers):
    shown = [show_handler(signal, how) for signal, how in handlers]
    return ";".join(shown) if len(shown) > 0 else "-"


def show_pile(pile):
    shown = [f"{row}:{show_signals(mask)}" for row, mask in pile]
    return ";".join(shown) if len(shown) > 0 else "-"


def person_row(name, person):
    """The row of a process in a house's text: its name and the sixteen things, in their order."""
    return " ".join([
        "person",
        show_name(name),
        show_name_or_none(person.parent),
        show_name(person.group),
        show_name(person.session),
        person.how,
        show_word_or_none(person.word),
        person.title,
        str(person.row),
        str(person.last),
        show_signals(person.mask),
        show_signals(person.held),
        show_handlers(person.handlers),
        show_pile(person.pile),
        str(person.born),
        show_truth(person.taker),
        show_truth(person.changed),
        show_word_or_none(person.news),
    ])


def session_row(name, front, numbers):
    """The row of a session in a house's text."""
    return f"session {show_name(name)} {show_name_or_none(front)} {show_numbers(numbers)}"


def house_rows(house):
    """The rows of a house's text: its sessions, then who is there."""
    sessions = [session_row(name, house.fronts[name], house.queues[name]) for name in house.sessions()]
    return sessions + [person_row(name, house.people[name]) for name in house.names()]


def show_thing(thing):
    """A thing of an event: a name, a number or a word."""
    return show_name(thing) if isinstance(thing, tuple) else str(thing)


def show_event(event):
    # A mask is the one tuple in an event that is no name.
    if event[0] == "mask":
        return f"mask {show_name(event[1])} {show_signals(event[2])}"
    return " ".join([show_thing(thing) for thing in event])


def show_events(events):
    return " ; ".join([show_event(event) for event in events]) if len(events) > 0 else "-"


def wait_words(row):
    which = "any" if row[1] is None else str(row[1])
    return ["wait", which, "stops"] if row[2] else ["wait", which]


def handle_words(row):
    how = row[2]
    if isinstance(how, tuple):
        return ["handle", row[1], str(how[0]), show_signals(how[1])]
    return ["handle", row[1], how]


def row_words(row):
    """The words of a program's row."""
    if row[0] == "wait":
        return wait_words(row)
    if row[0] == "handle":
        return handle_words(row)
    if row[0] in ("mask", "unmask"):
        return [row[0], show_signals(row[1])]
    return [str(part) for part in row]


def show_book(book):
    """The text of a book."""
    if not is_book(book):
        raise NoBook()
    rows = []
    for title, program in book:
        rows.append(f"program {title}")
        rows.extend([" ".join(row_words(row)) for row in program])
    return "\n".join(rows)
