"""The errors that the package raises."""


class NoRow(LookupError):
    """number ought to be that of a ROW, and is none."""

    def __init__(self, number):
        LookupError.__init__(self, number)
        self.number = number


class NoWord(LookupError):
    """word ought to be the first thing of a CLAIM, and is none of its words."""

    def __init__(self, word):
        LookupError.__init__(self, word)
        self.word = word


class NothingDone(LookupError):
    """There is no EDIT to take back, or none to put back."""


class Unfit(ValueError):
    """An argument is not as its point describes it."""


class NoPaper(ValueError):
    """There is no PAPER: what it ought to show is not so."""


class CanNot(ValueError):
    """There is nothing that could be returned."""


class TooMany(ValueError):
    """There are more LOCKS, ROWS or states than the point goes through."""


class BadText(ValueError):
    """line is the number of the first line of a text that is not as told."""

    def __init__(self, line):
        ValueError.__init__(self, line)
        self.line = line
