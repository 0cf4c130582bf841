"""Scraps whose text stands alone ([17])."""

from anyhalf.halves import empty_half, word_half
from anyhalf.joins import joined


def scrap_half(language, scrap):
    """The half of all words of a scrap; its head and its tail are whole words then."""
    head = end_half(language, scrap.head)
    if scrap.half is None:
        return head
    return joined(language, joined(language, head, scrap.half), end_half(language, scrap.tail))


def end_half(language, word):
    """The half of a head or of a tail, which may be empty."""
    if word == "":
        return empty_half(language)
    return word_half(language, word)
