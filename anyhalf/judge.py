"""Judges of tables: whether they have the form, whether they are right ([7])."""

from anyhalf.bonds import bond_at
from anyhalf.checks import check_words
from anyhalf.meets import met_pairs
from anyhalf.rolesof import roles_along
from anyhalf.tables import hanging
from anyhalf.treeforms import has_form


def form_right(language, words, table):
    """Whether a table has the form of the words."""
    check_words(words)
    return has_form(roles_along(language, words), table, len(words))


def table_right(language, words, table):
    """Whether a table has the form of the words and all pairs met have their bonds."""
    check_words(words)
    roles = roles_along(language, words)
    if not has_form(roles, table, len(words)):
        return False
    met = met_pairs(roles, hanging(table))
    return all([bond_at(language, t, u) == found for t, u, found in met])
