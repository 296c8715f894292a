"""The refusals of the package, each a class of its own."""


class RopeError(ValueError):
    """Whatever the package refuses."""


class BadStations(RopeError):
    """What was handed in as stations is none of their form."""


class BadSpace(RopeError):
    """What was handed in as a space is none."""


class BadCabins(RopeError):
    """What was handed in as cabins, or as a count of them, is none."""


class BadTicks(RopeError):
    """What was handed in as a count of ticks is none."""


class BadStation(RopeError):
    """What was handed in as a station's number is none."""


class BadTale(RopeError):
    """What was handed in as a tale is none of its form."""


class Full(RopeError):
    """A station's row has as many cabins as its room."""


class Empty(RopeError):
    """A station's row has no cabin."""
