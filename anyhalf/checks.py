"""Checks of arguments that many functions share ([0.1], [0.2])."""

from anyhalf.alphabet import SIGNS, is_word
from anyhalf.errors import BadPlace, BadText, BadWord, TooMany

SIGNS_MOST = 4000
WORDS_MOST = 4000


def is_number(value):
    """Whether any value is a number; True and False are none."""
    return isinstance(value, int) and not isinstance(value, bool)


def is_number_from(value, least, most):
    """Whether any value is a number that is neither less nor more than these."""
    return is_number(value) and least <= value <= most


def is_tuple_of(value, many):
    """Whether any value is a tuple of so many things."""
    return isinstance(value, tuple) and len(value) == many


def check_many(things, least, most):
    """Refuse a tuple that has fewer or more things than these."""
    if not least <= len(things) <= most:
        raise TooMany(len(things))


def check_signs_together(signs):
    """Refuse more signs than a text may have."""
    if signs > SIGNS_MOST:
        raise TooMany(signs)


def check_place(place, least, most):
    """Refuse what is no number of signs from the least to the most."""
    if not is_number_from(place, least, most):
        raise BadPlace(place)


def check_text(text):
    """Refuse what is marked "(text)": a text too long, or with a sign that is none."""
    check_many(text, 0, SIGNS_MOST)
    bad = first_bad_sign(text)
    if bad >= 0:
        raise BadText(bad)


def first_bad_sign(text):
    """The index of the first sign of a text that is none of the package, -1 if there is none."""
    rest = text.lstrip(SIGNS)
    return -1 if rest == "" else len(text) - len(rest)


def check_words(words):
    """Refuse what is marked "(words)": too many, or one that is not one word by form."""
    check_many(words, 0, WORDS_MOST)
    for at, word in enumerate(words):
        if not is_word(word):
            raise BadWord(at)
