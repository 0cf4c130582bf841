"""The fewest plain pairs of a tree, node by node ([27] to [29])."""

from anyhalf.contexts import ALONE, contexts_below, may_be_bare


class Wordings:
    """For each node of a said tree the least number of plain pairs, its own and all beneath it.

    That depends on its context; `costs` has it for all those that the node has
    in some wording. One half of a context is the node right above, so each node
    has not many more of them than the language has rows.
    """

    def __init__(self, tree):
        self.tree = tree
        self.costs = [{} for _ in tree.row]
        self.costs[0][ALONE] = 0
        for at in range(len(tree.row)):
            self.hand_on(at)
        for at in reversed(range(len(tree.row))):
            for context in list(self.costs[at]):
                self.costs[at][context] = self.cost(at, context)

    def can_be_bare(self, at, context):
        """Whether a node may be bare in this context."""
        return may_be_bare(self.tree.language, self.tree.row[at][0], self.tree.numbers[at], context)

    def children_in(self, at, context):
        """The children of a node, bare in this context, with their contexts."""
        contexts = contexts_below(self.tree.row[at][0], self.tree.numbers[at], context)
        return list(zip(self.tree.below[at], contexts))

    def hand_on(self, at):
        """Give the children of a node all contexts that they may have."""
        found = [context for context in self.costs[at] if self.can_be_bare(at, context)]
        for context in found + [ALONE]:
            for child, inner in self.children_in(at, context):
                self.costs[child][inner] = 0

    def beneath(self, at, context):
        """The pairs beneath a node that is bare in this context; ALONE for one in its pair."""
        return sum([self.costs[child][inner] for child, inner in self.children_in(at, context)])

    def cost(self, at, context):
        """The pairs of a node and all beneath it."""
        if self.is_bare(at, context):
            return self.beneath(at, context)
        return 1 + self.beneath(at, ALONE)

    def is_bare(self, at, context):
        """Whether a node is left bare: it may be, and costs no more than in its pair.

        So operands and kept nodes are: what is beneath them has the same contexts anywhere.
        """
        return self.can_be_bare(at, context) and self.beneath(at, context) <= 1 + self.beneath(at, ALONE)

    def paired(self):
        """For each node whether it stands in a plain pair in the wording that is printed."""
        paired = [False] * len(self.costs)
        waiting = [(0, ALONE)]
        while waiting:
            at, context = waiting.pop()
            paired[at] = not self.is_bare(at, context)
            waiting.extend(self.children_in(at, ALONE if paired[at] else context))
        return paired
