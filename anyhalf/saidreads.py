"""Said rows of right tables ([9])."""

from anyhalf.checks import check_words, is_number_from
from anyhalf.errors import NoSuch
from anyhalf.rolesof import roles_along
from anyhalf.tables import hanging, root_of


def said(language, words, table):
    """The said row of the whole tree."""
    check_words(words)
    return said_from(language, words, table, root_of(table))


def said_at(language, words, table, i):
    """The said row of what stands at word i."""
    check_words(words)
    if not is_number_from(i, 0, len(words) - 1) or roles_along(language, words)[i][0] == "open":
        raise NoSuch(i)
    return said_from(language, words, table, i)


def said_from(language, words, table, top):
    """The said row of the word at the top and all beneath it."""
    roles = roles_along(language, words)
    return tuple([said_pair(language, roles[at], words[at]) for at in said_words(roles, table, top)])


def said_words(roles, table, top):
    """The words at and beneath the top that stand for the pairs of its said row, in the order of that row.

    A word of a plain pair, which has none, is left out.
    """
    lists = hanging(table)
    found = []
    waiting = [top]
    while waiting:
        at = waiting.pop()
        if roles[at] != ("close", 0):
            found.append(at)
        below = lists[at][-1:] if roles[at][0] == "close" else lists[at]
        waiting.extend(below[::-1])
    return found


def said_pair(language, role, word):
    """The pair (kind, word) of a word in its role; a closing word stands for its kept pair."""
    kind, number = role
    if kind == "close":
        return ("kept", language.pairs[number][0])
    return (kind, word)
