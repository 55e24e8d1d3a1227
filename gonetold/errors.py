"""The errors that the package raises."""


class NoPlace(LookupError):
    """There is no such letter, state or token; place is the number asked for."""

    def __init__(self, place):
        self.place = place


class BadText(ValueError):
    """A text goes wrong at this line, counted from 1."""

    def __init__(self, line):
        self.line = line


class CanNot(ValueError):
    """There is none of what is asked for."""


class TooMuch(ValueError):
    """The answer would go beyond a bound that the document states."""


class Unfit(ValueError):
    """An argument is not such a value as this function takes, or two do not go together."""
