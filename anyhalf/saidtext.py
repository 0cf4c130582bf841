"""Said rows as texts ([40])."""

from anyhalf.errors import BadLine
from anyhalf.saidrows import PAIRS_MOST, checked_said, first_bad_pair


def said_text(language, row):
    """The text of a said row."""
    checked_said(language, row)
    return " ".join([f"{kind} {word}" for kind, word in row])


def said_of_text(language, text):
    """The said row that a text tells."""
    words = text.split(" ")
    row = tuple([tuple(words[at:at + 2]) for at in range(0, len(words), 2)])
    if len(row) > PAIRS_MOST or first_bad_pair(language, row) >= 0:
        raise BadLine(0)
    return row
