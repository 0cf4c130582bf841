"""Contexts of nodes, and which nodes may be without a plain pair in them ([28]).

A context is a pair of rows: the one that waits ahead of the node and the one
that takes behind it, NO_ROW where nothing does before the next bracket.
"""

from anyhalf.bonds import TAKING, WAITING, bond_at

NO_ROW = -1
ALONE = (NO_ROW, NO_ROW)


def contexts_below(kind, row, context):
    """The contexts of the children of a node of this kind and row, from the left.

    The content of a bracket is its only child here.
    """
    ahead, behind = context
    if kind == "between":
        return [(ahead, row), (row, behind)]
    if kind == "ahead":
        return [(row, behind)]
    if kind == "behind":
        return [(ahead, row)]
    return [] if kind == "operand" else [ALONE]


def may_be_bare(language, kind, row, context):
    """Whether a node of this kind and row may be without a plain pair in this context."""
    ahead, behind = context
    if kind in TAKING and ahead != NO_ROW and bond_at(language, ahead, row) != 0:
        return False
    return kind not in WAITING or behind == NO_ROW or bond_at(language, row, behind) == 1
