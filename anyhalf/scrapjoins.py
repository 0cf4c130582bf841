"""Scraps joined: where signs glue over the seam, one word comes of two ([17])."""

from anyhalf.alphabet import glue
from anyhalf.checks import check_signs_together
from anyhalf.halves import empty_half, word_half
from anyhalf.joins import joined
from anyhalf.scraps import Scrap, run_scrap


def joined_scraps(language, one, two):
    """The scrap of the text of one with that of two behind it."""
    signs = one.signs + two.signs
    check_signs_together(signs)
    if one.signs == 0:
        return two
    if two.signs == 0:
        return one
    words = seam_words(one.tail, two.head)
    if one.half is None and two.half is None and len(words) == 1:
        return run_scrap(words[0])
    return cut_scrap(language, one, words, two)


def seam_words(tail, head):
    """The words that come of a tail and of the head behind it."""
    if tail != "" and head != "" and glue(tail[-1], head[0]):
        return [tail + head]
    return [word for word in (tail, head) if word != ""]


def cut_scrap(language, one, words, two):
    """The scrap of two with these words at the seam, if they are not one run together."""
    head = one.head
    tail = two.tail
    if one.half is None:
        # What was the whole of one begins at the beginning of the text.
        head = words[0]
        words = words[1:]
    if two.half is None:
        tail = words[-1]
        words = words[:-1]
    halves = [one.half] + [word_half(language, word) for word in words] + [two.half]
    return Scrap(one.signs + two.signs, head, half_in_row(language, halves), tail)


def half_in_row(language, halves):
    """The half of some halves in a row; None stands for none."""
    whole = empty_half(language)
    for half in halves:
        if half is not None:
            whole = joined(language, whole, half)
    return whole
