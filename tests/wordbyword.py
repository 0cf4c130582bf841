"""Sides of halves told word by word, all words kept: what halves that keep less are tested against ([10] to [14])."""

from anyhalf.bonds import bond
from anyhalf.rolesof import fault_of, role_of


class WordByWord:
    """A side told by the rules of the document, one word after the other, all words kept."""

    def __init__(self, language, have):
        self.language = language
        self.held = have
        self.wanted = not have
        self.stack = []
        self.takes = []
        self.links = {}
        self.start = self.done = -1
        self.roles = []

    def level(self, word):
        return self.language.rows[self.roles[word][1]][2]

    def leave(self):
        word = self.stack.pop()
        self.links[self.done] = word
        self.done = word

    def waits(self):
        return bool(self.stack) and self.roles[self.stack[-1]][0] != "open"

    def meet(self, at):
        last = self.takes[-1][0] if self.takes else -1
        closing = "close" in (self.roles[at][0], self.roles[last][0] if last >= 0 else "")
        if last >= 0 and not closing and self.level(last) <= self.level(at):
            self.links[self.done] = at
            return
        if self.takes:
            self.takes[-1] = (last, self.done)
        elif not self.held:
            self.start = self.done
        self.takes.append((at, -1))

    def word(self, at, word):
        fault = fault_of(self.language, word, not self.wanted)
        if fault:
            return fault
        kind, number = role_of(self.language, word, not self.wanted)
        self.roles.append((kind, number))
        self.wanted = kind in ("ahead", "between", "open")
        if kind == "close":
            return self.closing(at, number)
        if kind in ("between", "behind"):
            while self.waits():
                told = bond(self.language, self.roles[self.stack[-1]][1], number)
                if told == -1:
                    return "clash"
                if told == 0:
                    break
                self.leave()
            if self.stack:
                self.links[self.done] = at
            else:
                self.meet(at)
        if self.wanted:
            self.stack.append(at)
        else:
            self.done = at
        return ""

    def closing(self, at, pair):
        while self.waits():
            self.leave()
        if not self.stack:
            self.meet(at)
        elif self.roles[self.stack[-1]][1] != pair:
            return "close"
        else:
            self.links[self.stack.pop()] = at
            self.links[self.done] = at
        self.done = at
        return ""

    def runs(self):
        runs = []
        first = 0
        for at, word in enumerate(self.stack):
            above = []
            for other in self.stack[at + 1:]:
                if self.roles[other][0] == "open":
                    break
                above.append(self.level(other))
            if self.roles[word][0] == "open" or all(level > self.level(word) for level in above):
                runs.append((self.stack[first], word))
                for under, over in zip(self.stack[first:at], self.stack[first + 1:at + 1]):
                    self.links[over] = under
                first = at + 1
        return tuple(runs)

    def outline(self, words):
        for at, word in enumerate(words):
            fault = self.word(at, word)
            if fault:
                return ((fault, at), tuple((first, -1) for first, _ in self.takes), (), -1, -1, False), ()
        runs = self.runs()
        if self.takes:
            self.takes[-1] = (self.takes[-1][0], -1 if runs else self.done)
        done = -1 if self.wanted else self.done
        return ((), tuple(self.takes), runs, self.start, done, self.wanted), tuple(sorted(self.links.items()))


def told_side(language, words, have):
    """The outline and the decided links of a side."""
    return WordByWord(language, have).outline(words)
