"""The fewest plain brackets of a said row ([27])."""

from anyhalf.contexts import ALONE
from anyhalf.saidrows import checked_said
from anyhalf.saidtrees import SaidTree
from anyhalf.wordings import Wordings


def brackets_least(language, row):
    """The least number of plain pairs with which a wording is read as this said row."""
    checked_said(language, row)
    return Wordings(SaidTree(language, row)).costs[0][ALONE]
