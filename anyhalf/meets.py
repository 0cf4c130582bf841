"""Pairs of words that are met in a table, and the bonds that they must have ([7])."""

from anyhalf.bonds import TAKING, WAITING


def met_pairs(roles, lists):
    """All triples (row t, row u, bond) of pairs met in a table that has the form."""
    found = []
    for at, role in enumerate(roles):
        if role[0] in TAKING:
            found.extend(met_ahead(roles, lists, at))
        if role[0] in WAITING:
            found.extend(met_behind(roles, lists, at))
    return found


def met_ahead(roles, lists, at):
    """What the taking word at meets in its left child: it comes later, so each bond is 1."""
    found = []
    child = lists[at][0]
    while roles[child][0] in WAITING:
        found.append((roles[child][1], roles[at][1], 1))
        child = lists[child][-1]
    return found


def met_behind(roles, lists, at):
    """What the waiting word at meets in its last child: it stays beneath, so each bond is 0."""
    found = []
    child = lists[at][-1]
    while roles[child][0] in TAKING:
        found.append((roles[at][1], roles[child][1], 0))
        child = lists[child][0]
    return found
