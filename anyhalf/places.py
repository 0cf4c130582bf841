"""Places of words in pieces, and words at signs ([21])."""

from anyhalf.checks import check_place, is_number_from
from anyhalf.errors import NoSuch
from anyhalf.pieceasks import text_of
from anyhalf.pieces import signs_of
from anyhalf.signs import spans_of


def place_of(piece, k):
    """The sign, the row and the column at which word k begins, or at which the text ends."""
    text = text_of(piece)
    begins = [begin for begin, _ in spans_of(text)] + [len(text)]
    if not is_number_from(k, 0, len(begins) - 1):
        raise NoSuch(k)
    ahead = text[:begins[k]]
    return (len(ahead), ahead.count("\n"), len(ahead) - ahead.rfind("\n") - 1)


def word_at(piece, sign):
    """The number of the word to which a sign belongs; -1 for a blank or a line feed."""
    check_place(sign, 0, signs_of(piece) - 1)
    for number, (begin, end) in enumerate(spans_of(text_of(piece))):
        if begin <= sign < end:
            return number
    return -1
