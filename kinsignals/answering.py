"""What a desk answers to a line, and what this does to its book and its house."""

from kinsignals.errors import NoHouse
from kinsignals.houses import House
from kinsignals.lines import read_line
from kinsignals.reaching import reached
from kinsignals.reading import read_book
from kinsignals.scripts import tale, walk
from kinsignals.showing import person_row, show_events, show_name, show_truth
from kinsignals.stillness import still, why
from kinsignals.touching import meet

DONE = "done"


def take_book(desk, parts):
    desk.book = read_book(parts[0].replace(" ; ", "\n"))
    return DONE


def take_house(desk, parts):
    if desk.book is None:
        raise NoHouse()
    title, *typed = parts
    desk.house = House(desk.book, title, typed=tuple(typed))
    return DONE


def go_script(desk, script):
    """Steps a script's entries, all or none."""
    # The house itself never changes: what comes of it takes its place once nothing was refused.
    house = desk.house.twin()
    events = tale(walk(house, script))
    desk.house = house
    return show_events(events)


def go_steps(desk, parts):
    return go_script(desk, tuple(parts))


def go_put(desk, parts):
    return go_script(desk, (("put", parts[0], parts[1]),))


def go_key(desk, parts):
    return go_script(desk, (("key", parts[0], parts[1]),))


def tell_who(desk, parts):
    return " ".join([show_name(name) for name in desk.house.names()])


def tell_person(desk, parts):
    # Refused where it isn't there.
    desk.house.person(parts[0])
    return person_row(parts[0], desk.house.people[parts[0]])


def tell_why(desk, parts):
    word = why(desk.house, parts[0])
    return "-" if word is None else word


def tell_still(desk, parts):
    words = still(desk.house)
    if words is None:
        return "no"
    return ", ".join([f"{show_name(name)} {word}" for name, word in words])


def tell_meet(desk, parts):
    return show_truth(meet(desk.house, parts[0], parts[1]))


def tell_reached(desk, parts):
    return str(len(reached(desk.house)))


# The lines that need no house.
HOUSELESS = {
    "book": take_book,
    "house": take_house,
}

ANSWERS = {
    "step": go_steps,
    "put": go_put,
    "key": go_key,
    "who": tell_who,
    "person": tell_person,
    "why": tell_why,
    "still": tell_still,
    "meet": tell_meet,
    "reached": tell_reached,
}


def answer_to(desk, line):
    """The answer to a line; where it is refused, the desk has the book and the house that it had."""
    word, parts = read_line(line)
    if word in HOUSELESS:
        doing = HOUSELESS[word]
    elif desk.house is None:
        raise NoHouse()
    else:
        doing = ANSWERS[word]
    return doing(desk, parts)
