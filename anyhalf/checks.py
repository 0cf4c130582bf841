"""Checks of arguments that many functions share ([0.1], [0.2])."""

from anyhalf.alphabet import SIGNS, is_word
from anyhalf.errors import BadText, BadWord, TooMany

SIGNS_MOST = 4000
WORDS_MOST = 4000


def is_number(value):
    """Whether any value is a number; True and False are none."""
    return isinstance(value, int) and not isinstance(value, bool)


def is_tuple_of(value, many):
    """Whether any value is a tuple of so many things."""
    return isinstance(value, tuple) and len(value) == many


def check_many(things, least, most):
    """Refuse a tuple that has fewer or more things than these."""
    if not least <= len(things) <= most:
        raise TooMany(len(things))


def check_text(text):
    """Refuse what is marked "(text)": a text too long, or with a sign that is none."""
    check_many(text, 0, SIGNS_MOST)
    rest = text.lstrip(SIGNS)
    if rest != "":
        raise BadText(len(text) - len(rest))


def check_words(words):
    """Refuse what is marked "(words)": too many, or one that is not one word by form."""
    check_many(words, 0, WORDS_MOST)
    for at, word in enumerate(words):
        if not is_word(word):
            raise BadWord(at)
