"""Trees put in the place of nodes ([32])."""

from anyhalf.checks import WORDS_MOST, check_many
from anyhalf.goodreads import good_table
from anyhalf.plainread import read_plain
from anyhalf.printed import printed
from anyhalf.rolesof import roles_along
from anyhalf.saidreads import said, said_at, said_words
from anyhalf.tables import root_of, span


def grafted(language, words, i, row):
    """The words with another tree in the place of the node of word i, in a plain pair only if it needs one."""
    table = good_table(language, words)
    gone = said_at(language, words, table, i)
    new = printed(language, row)
    first, last = span(table, i)
    bare = words[:first] + new + words[last + 1:]
    check_many(bare, 0, WORDS_MOST)
    old = said(language, words, table)
    begin = place_said(language, words, table, i)
    if is_said_of(language, bare, old[:begin] + row + old[begin + len(gone):]):
        return bare
    opening, closing = language.pairs[0]
    paired = words[:first] + (opening,) + new + (closing,) + words[last + 1:]
    check_many(paired, 0, WORDS_MOST)
    return paired


def place_said(language, words, table, i):
    """The number of the pair at which the part of word i begins in the said row of the words."""
    roles = roles_along(language, words)
    # A closing word of a plain pair has no pair itself: its part begins with that of its content.
    part = said_words(roles, table, i)
    return said_words(roles, table, root_of(table)).index(part[0])


def is_said_of(language, words, row):
    """Whether the words are read without a fault, as this said row."""
    kind, _, table = read_plain(language, words)
    return kind == "" and said(language, words, table) == row
