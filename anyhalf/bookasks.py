"""Questions to books, and books cut and put together ([37])."""

from anyhalf.book import book_of
from anyhalf.closetext import close_text
from anyhalf.errors import Unlike
from anyhalf.glue import glued
from anyhalf.goodreads import table_of_reading
from anyhalf.halfworth import worth
from anyhalf.needless import slimmed
from anyhalf.parting import parted
from anyhalf.pieceasks import half_of
from anyhalf.places import place_of, word_at
from anyhalf.saidreads import said
from anyhalf.signs import words_of
from anyhalf.stretches import stretch
from anyhalf.wraps import wrapped


def fault(book):
    """() if the text is read, else (kind, number, sign, row, column)."""
    kind, number, _ = book.reading()
    return () if kind == "" else (kind, number) + place(book, number)


def table(book):
    """The table of the reading."""
    return table_of_reading(book.reading())


def said_of(book):
    """The said row of the text."""
    return said(book.language, words_of(book.text()), table(book))


def least_of(book):
    """The text with the fewest plain brackets and blanks that is read as the same said row."""
    return close_text(slimmed(book.language, words_of(book.text())))


def worth_of(book):
    """The worth of the text."""
    return worth(book.language, book_half(book))


def missing(book):
    """The words that are missing ahead of the text and behind it."""
    return wrapped(book.language, book_half(book))


def stretch_of(book, a, b):
    """The reading of the signs a to b - 1."""
    return stretch(book.language, book.history.piece, a, b)


def place(book, k):
    """The sign, the row and the column of word k, or of the end."""
    return place_of(book.history.piece, k)


def word_at_of(book, sign):
    """The number of the word to which a sign belongs."""
    return word_at(book.history.piece, sign)


def cut(book, at):
    """Two new books, of the first at signs and of the others."""
    ahead, behind, made = parted(book.language, book.history.piece, at)
    return (book_of(book.language, ahead, made), book_of(book.language, behind, made))


def put_together(one, two):
    """A new book of both texts in a row."""
    if one.language != two.language:
        raise Unlike(0)
    piece, made = glued(one.language, one.history.piece, two.history.piece)
    return book_of(one.language, piece, made)


def book_half(book):
    """The half of all words of the text."""
    return half_of(book.language, book.history.piece)
