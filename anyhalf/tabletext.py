"""Tables as texts ([40])."""

from anyhalf.errors import BadLine
from anyhalf.numerals import NO_NUMBER, number_in

ROOT_SIGN = "-"


def table_text(table):
    """The text of a table."""
    return " ".join([ROOT_SIGN if number == -1 else str(number) for number in table])


def table_of(text):
    """The table that a text tells."""
    if text == "":
        return ()
    words = text.split(" ")
    numbers = [number_in(word) for word in words if word != ROOT_SIGN]
    if NO_NUMBER in numbers:
        raise BadLine(0)
    return tuple([-1 if word == ROOT_SIGN else number_in(word) for word in words])
