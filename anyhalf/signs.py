"""The words of a text, and where they stand in it ([1], [2])."""

from anyhalf.alphabet import BLANKS, glue
from anyhalf.checks import check_text


def words_of(text):
    """The words of a text, in order."""
    return tuple([text[begin:end] for begin, end in spans_of(text)])


def spans_of(text):
    """For each word the index of its first sign and the one behind its last sign."""
    check_text(text)
    spans = []
    for at, sign in enumerate(text):
        if sign in BLANKS:
            continue
        if at > 0 and glue(text[at - 1], sign):
            spans[-1] = (spans[-1][0], at + 1)
        else:
            spans.append((at, at + 1))
    return tuple(spans)
