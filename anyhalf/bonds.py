"""Bonds: who gets an operand between a word that waits and one that takes ([5])."""

from anyhalf.errors import BadRow

BOND_OF_SIDE = {"left": 1, "right": 0, "none": -1}
WAITING = ("ahead", "between")
TAKING = ("between", "behind")


def bond(language, t, u):
    """1 if t gets the operand between t and u, 0 if u does, -1 if neither may."""
    check_row(language, t, WAITING)
    check_row(language, u, TAKING)
    return bond_at(language, t, u)


def bonds(language):
    """All triples of a row that waits, one that takes, and their bond."""
    waiting = rows_in(language, WAITING)
    taking = rows_in(language, TAKING)
    return tuple([(t, u, bond_at(language, t, u)) for t in waiting for u in taking])


def check_row(language, row, roles):
    """Refuse what is not the number of a row in one of these roles."""
    if row not in rows_in(language, roles):
        raise BadRow(row)


def rows_in(language, roles):
    """The numbers of all rows in one of these roles."""
    return [at for at, row in enumerate(language.rows) if row[1] in roles]


def bond_at(language, t, u):
    """bond, for rows that are known to wait and to take."""
    level = language.rows[t][2]
    other = language.rows[u][2]
    if level != other:
        return 1 if level > other else 0
    return BOND_OF_SIDE[language.levels[level - 1]]
