"""Said rows printed as words ([29])."""

from anyhalf.contexts import NO_ROW
from anyhalf.saidrows import checked_said
from anyhalf.saidtrees import SaidTree
from anyhalf.wordings import Wordings


def printed(language, row):
    """The wording with the fewest plain pairs, in which nodes are bare from the root down where they can be."""
    checked_said(language, row)
    tree = SaidTree(language, row)
    return tree.worded(Wordings(tree).paired())


def full_words(language, row):
    """The wording in which each node ahead, between or behind has its plain pair."""
    checked_said(language, row)
    tree = SaidTree(language, row)
    return tree.worded([number != NO_ROW for number in tree.numbers])
