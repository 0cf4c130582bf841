"""Ways from a word up to the root of a right table ([8])."""

from anyhalf.tables import check_word_number


def way(table, i):
    """Word i, the word under which it hangs, and so on to the root."""
    check_word_number(table, i)
    words = []
    while i >= 0:
        words.append(i)
        i = table[i]
    return tuple(words)


def depth_of(table, i):
    """How many steps there are from word i to the root."""
    return len(way(table, i)) - 1


def over(table, i, j):
    """The first word on the way of i that stands on the way of j."""
    check_word_number(table, i)
    check_word_number(table, j)
    other = set(way(table, j))
    while i not in other:
        i = table[i]
    return i
