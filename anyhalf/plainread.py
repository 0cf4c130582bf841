"""The plain reader, from left to right with a stack ([6])."""

from anyhalf.bonds import bond_at
from anyhalf.checks import check_words
from anyhalf.rolesof import NO_ROLE, fault_at, leaves_operand, role_at


class PlainReader:
    """The reader behind some words: what waits, and which operand was made last.

    The stack has a pair (word, row) for each waiting word, and for each open
    bracket (word, -1 less the number of its pair).
    """

    def __init__(self, language, many):
        self.language = language
        self.parents = [-1] * many
        self.stack = []
        self.done = -1
        self.have = False

    def read_word(self, at, word):
        """Read the next word; tells the kind of its fault, or ""."""
        role = role_at(self.language, word, self.have)
        if role == NO_ROLE:
            return fault_at(self.language, word, self.have)
        kind, number = role
        self.have = leaves_operand(kind)
        if kind == "close":
            return self.read_closing(at, number)
        if kind in ("between", "behind"):
            return self.read_taking(at, kind, number)
        if kind == "operand":
            self.done = at
        else:
            self.stack.append((at, number if kind == "ahead" else -1 - number))
        return ""

    def top_row(self):
        """The row of the word on top of the stack; below 0 if no waiting word lies there."""
        return self.stack[-1][1] if self.stack else -1

    def hang_top(self):
        """The word on top leaves the stack with the last operand under it."""
        word, _ = self.stack.pop()
        self.parents[self.done] = word
        self.done = word

    def hang_waiting(self):
        """All waiting words leave, down to an open bracket."""
        while self.top_row() >= 0:
            self.hang_top()

    def read_taking(self, at, kind, row):
        """A between or a behind word."""
        while self.top_row() >= 0:
            found = bond_at(self.language, self.top_row(), row)
            if found == -1:
                return "clash"
            if found == 0:
                break
            self.hang_top()
        self.parents[self.done] = at
        if kind == "behind":
            self.done = at
        else:
            self.stack.append((at, row))
        return ""

    def read_closing(self, at, pair):
        """A closing bracket."""
        self.hang_waiting()
        if not self.stack or self.stack[-1][1] != -1 - pair:
            return "close"
        word, _ = self.stack.pop()
        self.parents[word] = at
        self.parents[self.done] = at
        self.done = at
        return ""

    def ended(self):
        """The reading behind the last word."""
        if not self.have:
            return ("end", len(self.parents), ())
        self.hang_waiting()
        if self.stack:
            return ("open", self.stack[-1][0], ())
        return ("", -1, tuple(self.parents))


def read_plain(language, words):
    """The reading of a row of words."""
    check_words(words)
    reader = PlainReader(language, len(words))
    for at, word in enumerate(words):
        fault = reader.read_word(at, word)
        if fault != "":
            return (fault, at, ())
    return reader.ended()
