"""Who is there, who lives, who stands where, and what one does next in a house."""

BEHIND_THE_LAST_ROW = ("end", 0)


def living_in(house, group):
    """The names of those that live in this group, rising."""
    people = house.people
    return sorted([name for name in people if people[name].group == group and people[name].how != "ended"])


def children_of(house, parent):
    """The names of those whose parent this one is, ended or not, rising."""
    people = house.people
    return sorted([name for name in people if people[name].parent == parent])


def own_child(house, name, k):
    """The name of the k-th child, None where it is there no more or has another parent."""
    child = (*name, k)
    if child in house.people and house.people[child].parent == name:
        return child
    return None


def is_orphan(house, group):
    """Whether no one that lives in this group has a parent of the same session and another group."""
    for name in living_in(house, group):
        person = house.people[name]
        if person.parent is None:
            continue
        parent = house.people[person.parent]
        if parent.session == person.session and parent.group != group:
            return False
    return True


def living_groups(house):
    """The names of the groups in which some live, rising."""
    people = house.people
    return sorted(set([people[name].group for name in people if people[name].how != "ended"]))


def orphans(house):
    """The names of the groups in which some live and which are orphans, rising."""
    return [group for group in living_groups(house) if is_orphan(house, group)]


def next_row(house, person):
    """The row that a person does next."""
    rows = house.programs[person.title]
    return rows[person.row] if person.row < len(rows) else BEHIND_THE_LAST_ROW
