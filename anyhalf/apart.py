"""Languages compared: whether they read all texts alike ([5])."""

from anyhalf.bonds import bonds
from anyhalf.errors import Unlike
from anyhalf.languages import free_name


def alike(one, two):
    """Whether all bonds of two languages with the same words are equal."""
    check_same_words(one, two)
    return bonds(one) == bonds(two)


def apart(one, two):
    """None if two languages are alike, else the shortest text that they read unlike."""
    check_same_words(one, two)
    found = [telling_words(one, mine, other) for mine, other in zip(bonds(one), bonds(two)) if mine != other]
    if not found:
        return None
    return " ".join(min(found, key=len))


def check_same_words(one, two):
    """Refuse languages with other words, roles or pairs."""
    if words_and_roles(one) != words_and_roles(two):
        raise Unlike(0)
    if one.pairs != two.pairs:
        raise Unlike(1)


def words_and_roles(language):
    """The words of all rows with their roles, in order."""
    return [(row[0], row[1]) for row in language.rows]


def telling_words(language, mine, other):
    """The words that two languages read unlike, by two triples with unlike bonds."""
    t, u, _ = mine
    name = free_name(language)
    words = [language.rows[t][0], name, language.rows[u][0]]
    if language.rows[t][1] == "between":
        words = [name, *words]
    if language.rows[u][1] == "between" and -1 not in (mine[2], other[2]):
        # Where one of them clashes at u, what stands behind u is not needed.
        words.append(name)
    return words
