"""All errors of the package; each one keeps what it is about in `what` ([0.2])."""


class Refused(ValueError):
    """What is asked cannot be done; all other errors stand under this one."""

    def __init__(self, what):
        self.what = what


class BadLevel(Refused):
    """A level has no side that is known."""


class BadRow(Refused):
    """A row of a language does not have its form, or is not the one asked for."""


class BadPair(Refused):
    """A pair of brackets does not have its form."""


class BadText(Refused):
    """A text has a sign that is none of the package."""


class BadWord(Refused):
    """A text is not one word by form."""


class BadPlace(Refused):
    """A place lies outside of a text."""


class BadNumber(Refused):
    """A size is none of a reckoning."""


class BadValue(Refused):
    """A value of a reckoning does not have its form."""


class BadForm(Refused):
    """A form of a row does not have its form."""


class BadKept(Refused):
    """A form of a kept pair does not have its form."""


class BadSaid(Refused):
    """A row of pairs is no said row."""


class BadLesson(Refused):
    """A lesson does not have its form."""


class BadHand(Refused):
    """There is no such hand."""


class BadLine(Refused):
    """A line of a text cannot be read."""


class TooMany(Refused):
    """There is more, or less, than the limits let."""


class Unlike(Refused):
    """Two languages do not have the same words or pairs."""


class NoSuch(Refused):
    """There is no such word."""


class NoReading(Refused):
    """A text is read with a fault."""


class NoWorth(Refused):
    """A language has no reckoning."""


class NothingToUndo(Refused):
    """No put stands that could be undone."""


class NothingToRedo(Refused):
    """No put was undone that could be redone."""
