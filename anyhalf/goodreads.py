"""Words that are to be read without a fault."""

from anyhalf.errors import NoReading
from anyhalf.plainread import read_plain


def good_table(language, words):
    """The table of the reading of the words."""
    return table_of_reading(read_plain(language, words))


def table_of_reading(reading):
    """The table of a reading, if it tells no fault."""
    kind, number, table = reading
    if kind != "":
        raise NoReading((kind, number))
    return table
