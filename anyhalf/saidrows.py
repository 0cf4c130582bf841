"""Said rows as arguments ([9])."""

from anyhalf.checks import check_many, is_tuple_of
from anyhalf.errors import BadSaid
from anyhalf.languages import is_operand

PAIRS_MOST = 400


def checked_said(language, row):
    """The row, if it is a said row of the language."""
    check_many(row, 0, PAIRS_MOST)
    bad = first_bad_pair(language, row)
    if bad >= 0:
        raise BadSaid(bad)
    return row


def first_bad_pair(language, row):
    """The index of the first pair that cannot stand there, how many there are if more is wanted, else -1."""
    wanted = 1
    for at, pair in enumerate(row):
        if wanted == 0 or not is_said_pair(language, pair):
            return at
        wanted += trees_beneath(pair[0]) - 1
    return len(row) if wanted > 0 else -1


def trees_beneath(kind):
    """How many trees hang under a node of this kind."""
    if kind == "operand":
        return 0
    return 2 if kind == "between" else 1


def is_said_pair(language, pair):
    """Whether any value is a pair (kind, word) of the language."""
    if not is_tuple_of(pair, 2) or not isinstance(pair[1], str):
        return False
    kind, word = pair
    if kind == "operand":
        return is_operand(language, word)
    if kind == "ahead":
        return word in language.ahead
    if kind in ("between", "behind"):
        return word in language.after and language.rows[language.after[word]][1] == kind
    if kind == "kept":
        return language.openings.get(word, 0) > 0
    return False
