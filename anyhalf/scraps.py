"""Scraps: what is known of a text that may be cut anywhere, within words too ([17])."""

from anyhalf.alphabet import MARKS, NAMES, all_among, may_glue
from anyhalf.halves import empty_half, many_of, word_half
from anyhalf.joins import joined
from anyhalf.signs import words_of


class Scrap:
    """What is known of a text; never changed.

    `head` is the word that may begin ahead of the text and `tail` the one that
    may go on behind it, "" if there is none. `half` is that of the words between
    them; it is None in a run, of which head and tail are the whole text.
    """

    def __init__(self, signs, head, half, tail):
        self.signs = signs
        self.head = head
        self.half = half
        self.tail = tail


def made_scrap(language, text):
    """The scrap of a text."""
    words = words_of(text)
    if is_run(text):
        return run_scrap(text)
    first = 1 if may_glue(text[0]) else 0
    last = len(words) - 1 if may_glue(text[-1]) else len(words)
    half = half_of_words(language, words[first:last])
    return Scrap(len(text), "".join(words[:first]), half, "".join(words[last:]))


def told(scrap):
    """("run", text), or ("cut", head, how many words stand between, tail)."""
    if scrap.half is None:
        return ("run", scrap.head)
    return ("cut", scrap.head, many_of(scrap.half), scrap.tail)


def words_many(scrap):
    """How many words the text of a scrap has."""
    if scrap.half is None:
        return 0 if scrap.signs == 0 else 1
    return many_of(scrap.half) + len([word for word in (scrap.head, scrap.tail) if word != ""])


def is_run(text):
    """Whether a text is empty, or all its signs are name signs, or all are mark signs."""
    return text == "" or all_among(text, NAMES) or all_among(text, MARKS)


def run_scrap(text):
    """The scrap of a text that is a run."""
    return Scrap(len(text), text, None, text)


def half_of_words(language, words):
    """The half of some words, joined by middles so that nothing is nested deep."""
    if not words:
        return empty_half(language)
    if len(words) == 1:
        return word_half(language, words[0])
    middle = len(words) // 2
    return joined(language, half_of_words(language, words[:middle]), half_of_words(language, words[middle:]))
