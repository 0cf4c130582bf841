"""What the sides of halves keep, against a side that is told word by word ([10] to [14], [22] to [24])."""

import random

from anyhalf.bonds import bond
from anyhalf.forms import on_line, on_sheet, sheet_left
from anyhalf.plainread import read_plain
from anyhalf.rolesof import fault_of, role_of, roles_along
from anyhalf.sides import all_links
from anyhalf.tables import children, root_of
from tests.common import E, Case, drawn_language, drawn_words, half_in_order, reckoned, split


def kept_outline(side):
    """What a side keeps, as the tuple (fault, takes, waits, start, done, wanted)."""
    takes = []
    at = 0
    for take in side.takes:
        at += take.gap
        takes.append((at, at + take.width))
    if takes:
        takes[-1] = (at, -1 if side.runs else side.done)
        assert at == side.last_take
    if side.fault:
        takes = [(first, -1) for first, _ in takes]
    waits = []
    last = 0
    for run in side.runs:
        waits.append((last + run.gap, last + run.gap + run.width))
        last = waits[-1][1]
    assert last == side.top
    return (side.fault, tuple(takes), tuple(waits), side.start, side.done, side.wanted)


def kept_links(side):
    return tuple(sorted(all_links(side.links)))


class WordByWord:
    """A side told by the rules of the document, one word after the other, all words kept."""

    def __init__(self, language, have):
        self.language = language
        self.held = have
        self.wanted = not have
        self.stack = []
        self.takes = []
        self.links = {}
        self.start = self.done = -1
        self.roles = []

    def level(self, word):
        return self.language.rows[self.roles[word][1]][2]

    def leave(self):
        word = self.stack.pop()
        self.links[self.done] = word
        self.done = word

    def waits(self):
        return bool(self.stack) and self.roles[self.stack[-1]][0] != "open"

    def meet(self, at):
        last = self.takes[-1][0] if self.takes else -1
        closing = "close" in (self.roles[at][0], self.roles[last][0] if last >= 0 else "")
        if last >= 0 and not closing and self.level(last) <= self.level(at):
            self.links[self.done] = at
            return
        if self.takes:
            self.takes[-1] = (last, self.done)
        elif not self.held:
            self.start = self.done
        self.takes.append((at, -1))

    def word(self, at, word):
        fault = fault_of(self.language, word, not self.wanted)
        if fault:
            return fault
        kind, number = role_of(self.language, word, not self.wanted)
        self.roles.append((kind, number))
        self.wanted = kind in ("ahead", "between", "open")
        if kind == "close":
            return self.closing(at, number)
        if kind in ("between", "behind"):
            while self.waits():
                told = bond(self.language, self.roles[self.stack[-1]][1], number)
                if told == -1:
                    return "clash"
                if told == 0:
                    break
                self.leave()
            if self.stack:
                self.links[self.done] = at
            else:
                self.meet(at)
        if self.wanted:
            self.stack.append(at)
        else:
            self.done = at
        return ""

    def closing(self, at, pair):
        while self.waits():
            self.leave()
        if not self.stack:
            self.meet(at)
        elif self.roles[self.stack[-1]][1] != pair:
            return "close"
        else:
            self.links[self.stack.pop()] = at
            self.links[self.done] = at
        self.done = at
        return ""

    def runs(self):
        runs = []
        first = 0
        for at, word in enumerate(self.stack):
            above = []
            for other in self.stack[at + 1:]:
                if self.roles[other][0] == "open":
                    break
                above.append(self.level(other))
            if self.roles[word][0] == "open" or all(level > self.level(word) for level in above):
                runs.append((self.stack[first], word))
                for under, over in zip(self.stack[first:at], self.stack[first + 1:at + 1]):
                    self.links[over] = under
                first = at + 1
        return tuple(runs)

    def outline(self, words):
        for at, word in enumerate(words):
            fault = self.word(at, word)
            if fault:
                return ((fault, at), tuple((first, -1) for first, _ in self.takes), (), -1, -1, False), ()
        runs = self.runs()
        if self.takes:
            self.takes[-1] = (self.takes[-1][0], -1 if runs else self.done)
        done = -1 if self.wanted else self.done
        return ((), tuple(self.takes), runs, self.start, done, self.wanted), tuple(sorted(self.links.items()))


def plain_worth(language, words, table, i):
    """The worth of word i, by the words of the document."""
    _, values, default, forms, kept = language.reckoning
    kind, number = roles_along(language, words)[i]
    worths = [plain_worth(language, words, table, child) for child in children(table, i)]
    if kind == "operand":
        return dict(values).get(words[i], default)
    if kind == "open":
        return "no worth"
    if kind == "between":
        return on_sheet(language, forms[number], *worths)
    if kind == "close":
        return on_line(language, kept[number - 1], worths[1]) if number else worths[1]
    return on_line(language, forms[number], worths[0])


def kept_worth(language, half):
    """The worth of a half that is read without a fault, from what its fresh side keeps."""
    side = half.fresh
    taken = side.start_worth
    for take in side.takes[:-1]:
        taken = on_line(language, take.line, taken)
    if not side.runs:
        return on_line(language, side.done_worth, taken) if side.takes else side.done_worth
    lines = [run.worth for run in side.runs]
    if side.takes:
        lines[0] = sheet_left(language, lines[0], taken)
    worth = side.done_worth
    for line in lines[::-1]:
        worth = on_line(language, line, worth)
    return worth


EXAMPLES = {
    ("* b + c *", True): ((), ((0, 0), (2, -1)), ((2, 2), (4, 4)), -1, -1, True),
    ("+ b ) * c ^", True): ((), ((0, 0), (2, 2), (3, -1)), ((3, 3), (5, 5)), -1, -1, True),
    ("* not - b", True): ((), ((0, -1),), ((0, 1), (2, 2)), -1, 3, False),
    ("! ^ b", True): ((), ((0, -1),), ((1, 1),), -1, 2, False),
    ("- a - b - c", True): ((), ((0, -1),), ((4, 4),), -1, 5, False),
    ("+ a < b < c )", True): (("clash", 4), ((0, -1), (2, -1)), (), -1, -1, False),
    ("a * b + c *", False): ((), ((1, 1), (3, -1)), ((3, 3), (5, 5)), 0, -1, True),
    ("a ^ b ^", False): ((), ((1, -1),), ((1, 3),), 0, -1, True),
    ("x", False): ((), (), (), -1, 0, False),
    ("", False): ((), (), (), -1, -1, True),
    ("", True): ((), (), (), -1, -1, False),
}


class SidesTest(Case):
    def side(self, draw, words, have, language=E):
        half = half_in_order(draw, language, words)
        return half.held if have else half.fresh

    def test_examples(self):
        draw = random.Random(17)
        for (text, have), expected in EXAMPLES.items():
            for _ in range(5):
                self.assertEqual(kept_outline(self.side(draw, split(text), have)), expected, text)
        self.assertEqual(kept_links(self.side(draw, split("* b + c *"), True)), ((1, 0), (3, 4)))
        self.assertEqual(kept_links(self.side(draw, split("a ^ b ^"), False)), ((2, 3), (3, 1)))

    def test_drawn_pieces(self):
        draw = random.Random(18)
        for _ in range(3000):
            language = drawn_language(draw) if draw.random() < 0.6 else E
            words = drawn_words(draw, language, draw.randint(0, 16))
            words = words[draw.choice((0, draw.randint(0, len(words)))):]
            for have in (False, True):
                side = self.side(draw, words, have, language)
                expected, links = WordByWord(language, have).outline(words)
                self.assertEqual(kept_outline(side), expected, words)
                if not side.fault:
                    self.assertEqual(kept_links(side), links, words)

    def test_worths(self):
        draw = random.Random(19)
        many = 0
        while many < 1500:
            size = draw.choice((0, 0, 2, 3, 10, 10 ** 9))
            language = reckoned(draw, drawn_language(draw) if draw.random() < 0.5 else E, size)
            words = drawn_words(draw, language, draw.randint(1, 16), 0)
            table = read_plain(language, words)[2]
            if table:
                many += 1
                half = half_in_order(draw, language, words)
                expected = plain_worth(language, words, table, root_of(table))
                self.assertEqual(kept_worth(language, half), expected, words)
