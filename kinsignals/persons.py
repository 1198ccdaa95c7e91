"""A process that is there: the sixteen things that it has."""


class Person:
    """One process, as it is when it begins."""

    def __init__(self, parent, group, session, title):
        self.parent = parent
        self.group = group
        self.session = session
        self.how = "runs"
        self.word = None
        self.title = title
        self.row = 0
        self.last = 0
        self.mask = ()
        self.held = ()
        self.handlers = ()
        self.pile = ()
        self.born = 0
        self.taker = False
        self.changed = False
        self.news = None


def first_one(title):
    """The process of which all others come, running the program of this title."""
    return Person(None, (), (), title)


def child_of(name, person):
    """The child that a person of this name forks: what is not set here a child begins with anew."""
    child = Person(name, person.group, person.session, person.title)
    child.row = person.row + 1
    child.mask = person.mask
    child.handlers = person.handlers
    child.pile = person.pile
    return child


def copied(person):
    """A person of its own with the same sixteen things."""
    other = Person(person.parent, person.group, person.session, person.title)
    other.how = person.how
    other.word = person.word
    other.row = person.row
    other.last = person.last
    other.mask = person.mask
    other.held = person.held
    other.handlers = person.handlers
    other.pile = person.pile
    other.born = person.born
    other.taker = person.taker
    other.changed = person.changed
    other.news = person.news
    return other


def things_of(person):
    """The sixteen things, in the order in which they are told."""
    return (
        person.parent,
        person.group,
        person.session,
        person.how,
        person.word,
        person.title,
        person.row,
        person.last,
        person.mask,
        person.held,
        person.handlers,
        person.pile,
        person.born,
        person.taker,
        person.changed,
        person.news,
    )


def handling(person, signal):
    """How a person handles a signal: "plain", "ignore" or (r, signals)."""
    for handled, how in person.handlers:
        if handled == signal:
            return how
    return "plain"


def go_on(person, last):
    """A row is done: the next step does the next row."""
    person.row += 1
    person.last = last


def lack(name, person):
    """A row finds not what it needs: it is passed over, and last tells so."""
    go_on(person, -1)
    return [("lack", name)]
