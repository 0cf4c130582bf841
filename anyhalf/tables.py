"""Questions to right tables: the root, what hangs where, stretches ([8])."""

from anyhalf.checks import is_number_from
from anyhalf.errors import NoSuch


def root_of(table):
    """The number of the root."""
    return table.index(-1)


def children(table, i):
    """The words that hang under word i, ascending."""
    check_word_number(table, i)
    return tuple([at for at, parent in enumerate(table) if parent == i])


def span(table, i):
    """The least and the greatest word at or beneath word i."""
    check_word_number(table, i)
    beneath = words_beneath(hanging(table), i)
    return (min(beneath), max(beneath))


def check_word_number(table, i):
    """Refuse what is not the number of a word."""
    if not is_number_from(i, 0, len(table) - 1):
        raise NoSuch(i)


def hanging(table):
    """For each word the list of the words that hang under it, ascending."""
    lists = [[] for _ in table]
    for at, parent in enumerate(table):
        if parent >= 0:
            lists[parent].append(at)
    return lists


def words_beneath(lists, i):
    """Word i and all words beneath it, each one behind the word that it hangs under."""
    found = []
    waiting = [i]
    while waiting:
        word = waiting.pop()
        found.append(word)
        waiting.extend(lists[word])
    return found
