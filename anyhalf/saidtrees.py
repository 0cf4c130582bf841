"""Trees of said rows, and their wordings ([9], [27])."""

from anyhalf.contexts import NO_ROW
from anyhalf.saidrows import trees_beneath


class SaidTree:
    """The tree of a said row: for each pair its row in the language, and the numbers of its children.

    Operands and kept nodes have NO_ROW; so all others may stand in a plain pair.
    """

    def __init__(self, language, row):
        self.language = language
        self.row = row
        self.numbers = [row_number(language, kind, word) for kind, word in row]
        self.below = [[] for _ in row]
        waiting = []
        for at in reversed(range(len(row))):
            self.below[at] = [waiting.pop() for _ in range(trees_beneath(row[at][0]))]
            waiting.append(at)

    def worded(self, paired):
        """The words of the wording in which the nodes with True in `paired` stand in their plain pairs."""
        words = []
        waiting = [0]
        while waiting:
            part = waiting.pop()
            if isinstance(part, str):
                words.append(part)
            else:
                parts = self.parts_of(part)
                waiting.extend(self.in_pair(0, parts)[::-1] if paired[part] else parts[::-1])
        return tuple(words)

    def parts_of(self, at):
        """The words of a bare node and the numbers of its children, in order."""
        kind, word = self.row[at]
        below = self.below[at]
        if kind == "kept":
            return self.in_pair(self.language.openings[word], below)
        if kind in ("between", "behind"):
            return below[:1] + [word] + below[1:]
        return [word] + below

    def in_pair(self, pair, parts):
        """These parts between the brackets of a pair."""
        opening, closing = self.language.pairs[pair]
        return [opening] + parts + [closing]


def row_number(language, kind, word):
    """The number of the row that a node of a said row has in the language."""
    if kind == "ahead":
        return language.ahead[word]
    if kind in ("between", "behind"):
        return language.after[word]
    return NO_ROW
