"""The form of tables ([7]): whether words hang as their roles ask for it."""

from anyhalf.checks import is_number_from
from anyhalf.rolesof import leaves_operand
from anyhalf.tables import hanging, words_beneath


class Stretches:
    """For each word of a table its children, and the least and greatest word beneath."""

    def __init__(self, lists, lows, highs):
        self.lists = lists
        self.lows = lows
        self.highs = highs


def has_form(roles, table, many):
    """Whether any value has the form of many words whose roles are these."""
    if len(roles) < many or many == 0 or not leaves_operand(roles[-1][0]):
        return False
    if not is_table(table, many):
        return False
    lists = hanging(table)
    order = words_beneath(lists, table.index(-1))
    if len(order) != many:
        return False
    return hangs_rightly(roles, lists, order)


def is_table(table, many):
    """Whether any value is a tuple of numbers of many words and just one -1."""
    if not isinstance(table, tuple) or len(table) != many:
        return False
    if not all([is_number_from(parent, -1, many - 1) for parent in table]):
        return False
    return table.count(-1) == 1


def hangs_rightly(roles, lists, order):
    """Whether all stretches are without gaps and each word has what its role asks for."""
    many = len(roles)
    tree = Stretches(lists, list(range(many)), list(range(many)))
    sizes = [1] * many
    for at in reversed(order):
        for child in lists[at]:
            sizes[at] += sizes[child]
            tree.lows[at] = min(tree.lows[at], tree.lows[child])
            tree.highs[at] = max(tree.highs[at], tree.highs[child])
        if tree.highs[at] - tree.lows[at] + 1 != sizes[at]:
            return False
    return all([children_fit(roles, tree, at) for at in range(many)])


def children_fit(roles, tree, at):
    """Whether what hangs under a word is what its role asks for."""
    kind = roles[at][0]
    below = tree.lists[at]
    if kind == "close":
        return closing_fits(roles, tree, at)
    if "open" in [roles[child][0] for child in below]:
        return False
    if kind in ("operand", "open"):
        return not below
    if kind == "ahead":
        return len(below) == 1 and tree.lows[below[0]] == at + 1
    if kind == "behind":
        return len(below) == 1 and tree.highs[below[0]] == at - 1
    return len(below) == 2 and tree.highs[below[0]] == at - 1 and tree.lows[below[1]] == at + 1


def closing_fits(roles, tree, at):
    """Whether an opening word of its pair and what stands between hang under a closing word."""
    below = tree.lists[at]
    if len(below) != 2:
        return False
    first, content = below
    if roles[first] != ("open", roles[at][1]) or roles[content][0] == "open":
        return False
    return tree.lows[content] == first + 1 and tree.highs[content] == at - 1
