"""Stretches of pieces, read as texts of their own ([20])."""

from anyhalf.checks import check_place
from anyhalf.parting import parted
from anyhalf.pieceasks import reading
from anyhalf.pieces import signs_of


def stretch(language, piece, a, b):
    """The reading of the signs a to b - 1."""
    check_place(a, 0, signs_of(piece))
    check_place(b, a, signs_of(piece))
    ahead, _, _ = parted(language, piece, b)
    _, part, _ = parted(language, ahead, a)
    return reading(language, part)
