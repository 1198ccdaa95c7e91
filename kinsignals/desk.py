"""A desk: lines of text are said to it, and it answers with texts."""

from kinsignals.answering import answer_to
from kinsignals.errors import KinError

KEPT = True


class Desk:
    """Has a book and a house, once it was told of them, and a log of all that was said."""

    def __init__(self):
        self.book = None
        self.house = None
        self.entries = []

    def say(self, line):
        """The answer to a line, which may be anything but a text with line feeds."""
        try:
            answer = answer_to(self, line)
        except KinError:
            self.entries.append("refused")
            raise
        self.entries.append("said")
        return answer

    def say_all(self, lines, *, keep=KEPT):
        """The answers to several lines; where one is refused, keep tells whether what those ahead did stays."""
        book = self.book
        house = self.house
        answers = []
        self.entries.append("open")
        try:
            for line in lines:
                answers.append(self.say(line))
        except KinError:
            if keep is not True:
                self.book = book
                self.house = house
            raise
        finally:
            self.entries.append("shut")
        return tuple(answers)

    def log(self):
        """What became of each line, and where several were said at once."""
        return tuple(self.entries)
