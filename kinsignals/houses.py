"""Houses: who is there, where, and how; each step changes them."""

from kinsignals.errors import NoBook, NoEntry, NoOne, NoSession, NoTitle, NoTyped
from kinsignals.persons import copied, first_one, things_of
from kinsignals.programs import is_book
from kinsignals.showing import house_rows
from kinsignals.steps import is_call, take_step
from kinsignals.values import are_small, is_name

SMALLEST_BOOK = (("a", (("pause",),)),)


def state_of(house):
    """All by which two houses are equal or not."""
    persons = [(name, house.person(name)) for name in house.names()]
    sessions = [(name, house.front(name), house.typed(name)) for name in house.sessions()]
    return house.book, persons, sessions


class House:
    """Processes of a book's programs, their sessions, and what is typed there."""

    def __init__(self, book, title, *, typed=()):
        if not is_book(book):
            raise NoBook()
        programs = {program[0]: program[1] for program in book}
        if not isinstance(title, str) or title not in programs:
            raise NoTitle(title)
        if not are_small(typed):
            raise NoTyped()
        self.book = book
        self.programs = programs
        self.people = {(): first_one(title)}
        self.fronts = {(): ()}
        self.queues = {(): typed}

    def person(self, name):
        """The sixteen things of a process."""
        # Only what is a name is looked up: (True,) would be found as (1,), and a list has no hash.
        if not is_name(name) or name not in self.people:
            raise NoOne(name)
        return things_of(self.people[name])

    def names(self):
        """The names of those that are there, rising."""
        return tuple(sorted(list(self.people)))

    def front(self, session):
        """The name of the group in front of a session, or None."""
        self.check_session(session)
        return self.fronts[session]

    def typed(self, session):
        """What is typed in a session and not read."""
        self.check_session(session)
        return self.queues[session]

    def check_session(self, session):
        if not is_name(session) or session not in self.fronts:
            raise NoSession(session)

    def sessions(self):
        """The names of all sessions that ever were, rising."""
        return tuple(sorted(list(self.fronts)))

    def twin(self):
        """A house of its own with the same."""
        # The book was looked over when this house was made; that need not be done for each twin.
        other = House(SMALLEST_BOOK, "a")
        other.book = self.book
        other.programs = self.programs
        other.people = {name: copied(self.people[name]) for name in self.people}
        other.fronts = {name: self.fronts[name] for name in self.fronts}
        other.queues = {name: self.queues[name] for name in self.queues}
        return other

    def step(self, entry):
        """Does what an entry says, and tells the events."""
        if is_name(entry):
            if entry not in self.people:
                raise NoOne(entry)
        elif is_call(entry):
            self.check_session(entry[1])
        else:
            raise NoEntry()
        return tuple(take_step(self, entry))

    def __eq__(self, other):
        return isinstance(other, House) and state_of(self) == state_of(other)

    def __len__(self):
        return len(self.people)

    def __str__(self):
        return "\n".join(house_rows(self))
