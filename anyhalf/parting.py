"""Pieces parted at a sign, and signs of a piece replaced ([20])."""

from anyhalf.checks import check_place, check_signs_together, check_text
from anyhalf.glue import glued
from anyhalf.pieces import built, leaf_of, signs_of


def parted(language, piece, at):
    """The pieces of the first at signs and of the others, and how many nodes were made."""
    check_place(at, 0, signs_of(piece))
    if at == 0:
        return (None, piece, 0)
    if at == piece.signs:
        return (piece, None, 0)
    if piece.high == 0:
        return (leaf_of(language, piece.text[:at]), leaf_of(language, piece.text[at:]), 2)
    if at <= piece.left.signs:
        ahead, rest, made = parted(language, piece.left, at)
        behind, more = glued(language, rest, piece.right)
    else:
        rest, behind, made = parted(language, piece.right, at - piece.left.signs)
        ahead, more = glued(language, piece.left, rest)
    return (ahead, behind, made + more)


def replaced(language, piece, at, gone, text):
    """The piece in which the gone signs from sign at on give way to the text, and how many nodes were made."""
    check_edit(piece, at, gone, text)
    check_signs_together(signs_of(piece) - gone + len(text))
    ahead, rest, made_first = parted(language, piece, at)
    _, behind, made_second = parted(language, rest, gone)
    new, made_new = built(language, text)
    front, made_front = glued(language, ahead, new)
    whole, made_whole = glued(language, front, behind)
    return (whole, made_first + made_second + made_new + made_front + made_whole)


def check_edit(piece, at, gone, text):
    """Refuse what cannot be replaced in a piece, but for the length of what comes of it."""
    check_place(at, 0, signs_of(piece))
    check_place(gone, 0, signs_of(piece) - at)
    check_text(text)
