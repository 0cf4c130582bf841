"""Said rows of right tables ([9])."""

from anyhalf.checks import check_words, is_number_from
from anyhalf.errors import NoSuch
from anyhalf.rolesof import roles_along
from anyhalf.tables import hanging, root_of


def said(language, words, table):
    """The said row of the whole tree."""
    check_words(words)
    return said_from(language, words, table, root_of(table))


def said_at(language, words, table, i):
    """The said row of what stands at word i."""
    check_words(words)
    if not is_number_from(i, 0, len(words) - 1) or roles_along(language, words)[i][0] == "open":
        raise NoSuch(i)
    return said_from(language, words, table, i)


def said_from(language, words, table, top):
    """The said row of the word at the top and all beneath it."""
    roles = roles_along(language, words)
    lists = hanging(table)
    row = []
    waiting = [top]
    while waiting:
        at = waiting.pop()
        kind, number = roles[at]
        if kind == "close":
            if number > 0:
                row.append(("kept", language.pairs[number][0]))
            waiting.append(lists[at][-1])
        else:
            row.append((kind, words[at]))
            waiting.extend(lists[at][::-1])
    return tuple(row)
