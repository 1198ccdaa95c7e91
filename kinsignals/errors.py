"""The refusals: each one stands straight under KinError."""


class KinError(ValueError):
    """What all refusals have in common."""


class NoTitle(KinError):
    """No program of the book has this title."""

    def __init__(self, title):
        KinError.__init__(self, "no program has this title")
        self.title = title


class NoOne(KinError):
    """No process of this name is there."""

    def __init__(self, name):
        KinError.__init__(self, "no process of this name is there")
        self.name = name


class NoSession(KinError):
    """There never was a session of this name."""

    def __init__(self, name):
        KinError.__init__(self, "there is no session of this name")
        self.name = name


class NoText(KinError):
    """A text in which this row, from 0, is the first one that is wrong."""

    def __init__(self, row):
        KinError.__init__(self, "a row of this text is wrong or lacking")
        self.row = row


class NoBook(KinError):
    """This is no book."""

    def __init__(self):
        KinError.__init__(self, "this is no book")


class NoTyped(KinError):
    """This is no tuple of numbers that can be typed."""

    def __init__(self):
        KinError.__init__(self, "this cannot be typed")


class NoEntry(KinError):
    """This is no entry of a script."""

    def __init__(self):
        KinError.__init__(self, "this is no entry")


class NoScript(KinError):
    """This is no tuple of entries."""

    def __init__(self):
        KinError.__init__(self, "this is no script")


class TooMany(KinError):
    """More houses can come than were asked for at most."""

    def __init__(self):
        KinError.__init__(self, "too many houses can come")


class NoLine(KinError):
    """This is no line that a desk takes."""

    def __init__(self):
        KinError.__init__(self, "this is no line of a desk")


class NoHouse(KinError):
    """The desk has no house so far, or no book to make one of."""

    def __init__(self):
        KinError.__init__(self, "there is no house, or no book for one")
