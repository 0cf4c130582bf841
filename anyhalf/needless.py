"""Brackets that can be taken out ([31])."""

from anyhalf.bonds import TAKING, WAITING
from anyhalf.contexts import ALONE, NO_ROW, contexts_below, may_be_bare
from anyhalf.goodreads import good_table
from anyhalf.printed import printed
from anyhalf.rolesof import roles_along
from anyhalf.saidreads import said
from anyhalf.tables import hanging, root_of, words_beneath

PLAIN_CLOSE = ("close", 0)


def needless(language, words):
    """The closing words of all plain pairs of which each can be taken out alone."""
    table = good_table(language, words)
    nodes = Nodes(language, roles_along(language, words), table)
    return tuple([at for at, role in enumerate(nodes.roles) if role == PLAIN_CLOSE and nodes.can_go(at)])


def slimmed(language, words):
    """The words with as few plain pairs as can be, read as the same said row."""
    return printed(language, said(language, words, good_table(language, words)))


class Nodes:
    """The nodes of a right table, with the context in which each one stands."""

    def __init__(self, language, roles, table):
        self.language = language
        self.roles = roles
        self.lists = hanging(table)
        self.contexts = [ALONE] * len(table)
        for at in words_beneath(self.lists, root_of(table)):
            kind, row = roles[at]
            inner = [ALONE, ALONE] if kind == "close" else contexts_below(kind, row, self.contexts[at])
            for child, context in zip(self.lists[at], inner):
                self.contexts[child] = context

    def can_go(self, at):
        """Whether the pair of this closing word can be taken out."""
        ahead, behind = self.contexts[at]
        content = self.lists[at][-1]
        return (self.edge_fits(content, 0, TAKING, (ahead, NO_ROW))
                and self.edge_fits(content, -1, WAITING, (NO_ROW, behind)))

    def edge_fits(self, node, side, kinds, beyond):
        """Whether all nodes of these kinds, down the left (0) or right (-1) edge, may be bare beside what is beyond.

        Without the pair they all have that neighbour, as far as to a bracket, an
        operand, or a word that has nothing on that side.
        """
        while self.roles[node][0] in kinds:
            kind, row = self.roles[node]
            if not may_be_bare(self.language, kind, row, beyond):
                return False
            node = self.lists[node][side]
        return True
