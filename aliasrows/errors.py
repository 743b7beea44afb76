"""The errors that the package raises."""


class NoName(LookupError):
    """A string that ought to be a name of the TABLE and is none."""

    def __init__(self, name):
        self.name = name


class NoSpot(LookupError):
    """A string that ought to be a spot of the ROW and is none."""

    def __init__(self, spot):
        self.spot = spot


class NoNumber(LookupError):
    """A number by which nothing is numbered."""

    def __init__(self, number):
        self.number = number


class Known(ValueError):
    """A name that is there already."""

    def __init__(self, name):
        self.name = name


class CanNot(ValueError):
    """What is asked for cannot be."""


class Unfit(ValueError):
    """What is handed in does not fit together."""


class BadText(ValueError):
    """A text that stands for nothing."""


class BadLine(ValueError):
    """A line, by its number, that is no request."""

    def __init__(self, number):
        self.number = number
