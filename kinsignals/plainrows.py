"""The rows without kin, groups and signals: say, goto, if, exec."""

from kinsignals.persons import go_on, lack
from kinsignals.sending import let_fall


def do_say(house, name, row):
    go_on(house.people[name], 0)
    return [("said", name, row[1])]


def go_to(house, name, number):
    """The next step does the row of this number; last stays."""
    person = house.people[name]
    person.row = number
    return [("went", name, number)]


def do_goto(house, name, row):
    return go_to(house, name, row[1])


def do_if(house, name, row):
    person = house.people[name]
    if person.last == row[1]:
        return go_to(house, name, row[2])
    return go_to(house, name, person.row + 1)


def do_exec(house, name, row):
    person = house.people[name]
    title = row[1]
    if title not in house.programs:
        return lack(name, person)
    person.title = title
    person.row = 0
    person.last = 0
    person.changed = True
    person.pile = ()
    person.handlers = tuple([pair for pair in person.handlers if pair[1] == "ignore"])
    return [("exec", name, title)] + let_fall(name, person)


PLAIN_ROWS = {
    "say": do_say,
    "goto": do_goto,
    "if": do_if,
    "exec": do_exec,
}
