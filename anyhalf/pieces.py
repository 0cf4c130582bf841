"""Pieces: texts kept as trees of leaves, whose heights are balanced ([18])."""

from anyhalf.checks import check_text
from anyhalf.scrapjoins import joined_scraps
from anyhalf.scraps import made_scrap

LEAF_SIGNS = 8


class Piece:
    """A leaf with its text, or a pair of two pieces; never changed. None stands for the empty text."""

    def __init__(self, high, signs, left, right, text, scrap):
        self.high = high
        self.signs = signs
        self.left = left
        self.right = right
        self.text = text
        self.scrap = scrap


def built(language, text):
    """The piece of a text, and how many nodes were made."""
    check_text(text)
    leaves = [leaf_of(language, text[at:at + LEAF_SIGNS]) for at in range(0, len(text), LEAF_SIGNS)]
    if not leaves:
        return (None, 0)
    return (built_of(language, leaves), 2 * len(leaves) - 1)


def built_of(language, leaves):
    """The piece of some leaves, of which the first half stands on the left."""
    if len(leaves) == 1:
        return leaves[0]
    middle = (len(leaves) + 1) // 2
    return pair_of(language, built_of(language, leaves[:middle]), built_of(language, leaves[middle:]))


def leaf_of(language, text):
    """The leaf of a text of 1 to 8 signs."""
    return Piece(0, len(text), None, None, text, made_scrap(language, text))


def pair_of(language, left, right):
    """The pair of two pieces whose heights differ by at most 1."""
    scrap = joined_scraps(language, left.scrap, right.scrap)
    return Piece(max(left.high, right.high) + 1, left.signs + right.signs, left, right, None, scrap)


def signs_of(piece):
    """How many signs a piece has, which may be None."""
    return 0 if piece is None else piece.signs
