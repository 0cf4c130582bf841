"""Questions to pieces: text, shape, half and reading ([20])."""

from anyhalf.closes import closed
from anyhalf.halves import empty_half
from anyhalf.scrapends import scrap_half


def text_of(piece):
    """The text of a piece."""
    return "".join([node.text for node in nodes_of(piece) if node.high == 0])


def shape(piece):
    """A pair (height, how many signs) for each node, a pair before its parts."""
    return tuple([(node.high, node.signs) for node in nodes_of(piece)])


def half_of(language, piece):
    """The half of all words of the text."""
    if piece is None:
        return empty_half(language)
    return scrap_half(language, piece.scrap)


def reading(language, piece):
    """The reading of the text."""
    return closed(language, half_of(language, piece))


def nodes_of(piece):
    """All nodes of a piece, a pair before its parts, left before right; a leaf has None for both."""
    if piece is None:
        return []
    return [piece] + nodes_of(piece.left) + nodes_of(piece.right)
