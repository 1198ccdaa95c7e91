"""The rows of groups, sessions and fronts: session, group, front, read."""

from kinsignals.family import is_orphan, living_in, own_child
from kinsignals.persons import go_on, handling, lack
from kinsignals.sending import send_each


def do_session(house, name, row):
    person = house.people[name]
    if len(living_in(house, name)) > 0:
        return lack(name, person)
    person.session = name
    person.group = name
    house.fronts[name] = None
    house.queues[name] = ()
    go_on(person, 0)
    return [("session", name)]


def one_meant(house, name, who):
    """The name of who is meant: itself, or its k-th child that lives in its session; None where there is none."""
    if who == "self":
        return name
    child = own_child(house, name, who)
    if child is None or house.people[child].how == "ended":
        return None
    if house.people[child].session != house.people[name].session:
        return None
    return child


def may_be_moved(house, mover, moved):
    """Whether one may put another, or itself, into a group."""
    person = house.people[moved]
    if person.session == moved:
        return False
    return moved == mover or not person.changed


def do_group(house, name, row):
    person = house.people[name]
    moved = one_meant(house, name, row[1])
    if moved is None or not may_be_moved(house, name, moved):
        return lack(name, person)
    group = moved if row[2] == "new" else person.group
    other = house.people[moved]
    other.group = group
    go_on(person, 0)
    return [("group", moved, group)]


def do_front(house, name, row):
    person = house.people[name]
    meant = one_meant(house, name, row[1])
    front = house.fronts[person.session]
    if meant is None or front is not None and front != person.group:
        return lack(name, person)
    group = house.people[meant].group
    house.fronts[person.session] = group
    go_on(person, 0)
    return [("front", person.session, group)]


def read_in_front(house, name):
    person = house.people[name]
    queue = house.queues[person.session]
    if len(queue) == 0:
        return [("idle", name, "reads")]
    house.queues[person.session] = queue[1:]
    go_on(person, queue[0])
    return [("read", name, queue[0])]


def is_in_front(house, person):
    return house.fronts[person.session] == person.group


def called_by_read(house, name):
    """The names of those to whom a read out of front sends reads, rising; none where it lacks."""
    person = house.people[name]
    deaf = "reads" in person.mask or handling(person, "reads") == "ignore"
    if deaf or name == () or is_orphan(house, person.group):
        return []
    return living_in(house, person.group)


def do_read(house, name, row):
    person = house.people[name]
    if is_in_front(house, person):
        return read_in_front(house, name)
    names = called_by_read(house, name)
    if len(names) == 0:
        return lack(name, person)
    # The row is not done, so it stays the next one and last stays, too.
    return send_each(house, names, "reads")


GROUP_ROWS = {
    "session": do_session,
    "group": do_group,
    "front": do_front,
    "read": do_read,
}
