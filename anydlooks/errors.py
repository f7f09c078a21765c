"""The errors of the package. Each keeps by name what it is created with."""


class NoBlock(LookupError):
    """The program has no block of this number."""

    def __init__(self, number):
        self.number = number


class NoRegister(LookupError):
    """The program has no register, or cell, of this number."""

    def __init__(self, number):
        self.number = number


class NoBus(LookupError):
    """The program has no bus of this number."""

    def __init__(self, number):
        self.number = number


class NoLine(LookupError):
    """The run has no line of this number."""

    def __init__(self, number):
        self.number = number


class NoItem(LookupError):
    """The program has no item at this path."""

    def __init__(self, path):
        self.path = path


class NoPerson(LookupError):
    """There is no person of this number."""

    def __init__(self, number):
        self.number = number


class NothingDone(LookupError):
    """There is nothing that could be answered, taken back or done again."""


class BadLine(ValueError):
    """The line of this number can not stand in the text."""

    def __init__(self, number):
        self.number = number


class CanNot(ValueError):
    """What is asked for does not exist."""


class TooMany(ValueError):
    """There are more results than are listed."""


class Unfit(ValueError):
    """A value does not fit the others."""
