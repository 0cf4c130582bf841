"""What the tests share: the language E, drawn languages and words, ways to join halves."""

import unittest

from anyhalf.closes import closed
from anyhalf.halves import empty_half, many_of, word_half
from anyhalf.joins import joined
from anyhalf.languages import made_language
from anyhalf.outlines import decided, outline
from anyhalf.plainread import read_plain
from anyhalf.reckon import reckoned
from anyhalf.rolesof import fault_of, role_of
from anyhalf.scrapends import scrap_half
from anyhalf.scraps import told, words_many

E_LEVELS = ("left", "none", "left", "left", "right")
E_ROWS = (("not", "ahead", 1), ("<", "between", 2), ("+", "between", 3), ("-", "between", 3), ("*", "between", 4),
          ("-", "ahead", 4), ("^", "between", 5), ("!", "behind", 5))
E_PAIRS = (("(", ")"), ("[", "]"))
E = made_language(E_LEVELS, E_ROWS, E_PAIRS)
WORDS = ("+", "-", "*", "<", "not", "!", "f", "g")
FAULTS = ("word", "want", "have", "clash", "close", "end", "open")


class Case(unittest.TestCase):
    def refused(self, error, what, call, *args, **more):
        with self.assertRaises(error) as caught:
            call(*args, **more)
        self.assertIs(type(caught.exception), error)
        self.assertEqual(caught.exception.what, what)
        self.assertIs(type(caught.exception.what), type(what))


def split(text):
    """The words of a text in which blanks stand between them."""
    return tuple(text.split())


def drawn_language(draw, alike_levels=False):
    """A small language in which some words have two rows."""
    many = draw.randint(1, 4)
    levels = tuple(draw.choice(("left", "right", "none")) for _ in range(many))
    rows = []
    for word in WORDS:
        if draw.random() < 0.4:
            rows.append((word, "ahead", draw.randint(1, many)))
        if draw.random() < 0.5:
            rows.append((word, draw.choice(("between", "behind")), draw.randint(1, many)))
    draw.shuffle(rows)
    pairs = (("(", ")"), ("[", "]"), ("{", "}"))[:draw.randint(1, 3)]
    return made_language(levels, tuple(rows), pairs)


def drawn_words(draw, language, many, slips=0.03):
    """Words in a row, most of which can stand where they stand."""
    stock = ["a", "b"] + [row[0] for row in language.rows] + [sign for pair in language.pairs for sign in pair]
    words = []
    have = False
    for _ in range(many):
        word = draw.choice(stock + ["abcdefghijklm"])
        while draw.random() > slips and fault_of(language, word, have) != "":
            word = draw.choice(stock)
        words.append(word)
        have = role_of(language, word, have)[0] in ("operand", "behind", "close")
    return tuple(words)


def drawn_number(draw, size):
    """A number of the reckonings of this size."""
    if size == 0:
        return draw.choice((None, 0, draw.randint(-9, 9), draw.randint(-9, 9), draw.randint(-10 ** 6, 10 ** 6)))
    return draw.choice((0, 1, draw.randrange(size)))


def with_reckoning(draw, language, size):
    """The language with a drawn reckoning of this size."""
    def numbers(many):
        return tuple(drawn_number(draw, size) for _ in range(many))

    values = tuple((name, *numbers(1)) for name in ("a", "b")[:draw.randint(0, 2)])
    forms = tuple(numbers(4 if row[1] == "between" else 2) for row in language.rows)
    kept = tuple(numbers(2) for _ in language.pairs[1:])
    return reckoned(language, size, values, drawn_number(draw, size), forms, kept)


def half_in_order(draw, language, words, empties=0):
    """The half of words, joined two neighbours at a time in a drawn order, with empty ones put in."""
    halves = [word_half(language, word) for word in words]
    for _ in range(empties if halves else 1):
        halves.insert(draw.randint(0, len(halves)), empty_half(language))
    while len(halves) > 1:
        at = draw.randrange(len(halves) - 1)
        halves[at:at + 2] = [joined(language, halves[at], halves[at + 1])]
    return halves[0]


def half_from_left(language, words):
    half = empty_half(language)
    for word in words:
        half = joined(language, half, word_half(language, word))
    return half


def half_from_right(language, words):
    half = empty_half(language)
    for word in reversed(words):
        half = joined(language, word_half(language, word), half)
    return half


def half_by_middles(language, words):
    halves = [word_half(language, word) for word in words]
    while len(halves) > 1:
        pairs = [halves[at:at + 2] for at in range(0, len(halves), 2)]
        halves = [joined(language, *pair) if len(pair) == 2 else pair[0] for pair in pairs]
    return halves[0]


def all_halves(language, words):
    """The halves of words by every order of joining them."""
    if len(words) == 1:
        return [word_half(language, words[0])]
    found = []
    for cut in range(1, len(words)):
        for one in all_halves(language, words[:cut]):
            for two in all_halves(language, words[cut:]):
                found.append(joined(language, one, two))
    return found


def half_told(half):
    """The outline and the decided links of both sides."""
    return [(outline(half, have), decided(half, have)) for have in (False, True)]


def scrap_told(language, scrap):
    """All that a scrap tells, with its half."""
    half = scrap_half(language, scrap)
    return (told(scrap), words_many(scrap), many_of(half), closed(language, half), half_told(half))


def deep_brackets(many, inner=("a",)):
    return ("(",) * many + tuple(inner) + (")",) * many


def bent(draw, language, words):
    """The words with one of them left out, put in, changed, or exchanged with the next one."""
    words = list(words)
    stock = ["a", "$$"] + [row[0] for row in language.rows] + [sign for pair in language.pairs for sign in pair]
    at = draw.randint(0, len(words))
    way = draw.randrange(4)
    if way == 0:
        words[at:at + 1] = []
    elif way == 1:
        words[at:at] = [draw.choice(stock)]
    elif way == 2:
        words[at:at + 1] = [draw.choice(stock)]
    else:
        words[at:at + 2] = words[at:at + 2][::-1]
    return tuple(words)


def drawn_text(draw, language, many):
    """A text of about so many words, parted by blanks, line feeds or nothing."""
    words = drawn_words(draw, language, many, 0.1)
    text = draw.choice(("", " ", "\n", "  "))
    for word in words:
        text += word + draw.choice((" ", " ", " ", "", "\n", " \n "))
    return text


def parts_of(draw, text, many):
    """The text cut at drawn places into so many parts, some of which may be empty."""
    cuts = sorted(draw.randint(0, len(text)) for _ in range(many - 1))
    return [text[begin:end] for begin, end in zip([0] + cuts, cuts + [len(text)])]


def grown_words(draw, language, many):
    """About so many words that stand rightly; they may clash, but have no other fault."""
    words = ["a"]
    while len(words) < many:
        at = draw.choice([at for at, word in enumerate(words) if word in ("a", "b", "c")])
        operand, other = words[at], draw.choice("abc")
        grown = [[pair[0], operand, pair[1]] for pair in language.pairs]
        for word, role, _ in language.rows:
            grown.append({"ahead": [word, operand], "between": [operand, word, other], "behind": [operand, word]}[role])
        words[at:at + 1] = draw.choice(grown)
    return tuple(words)


def good_words(draw, language, many):
    """About so many words that are read without a fault."""
    while True:
        words = grown_words(draw, language, many)
        if read_plain(language, words)[0] == "":
            return words
        many = max(1, many - 1)


def drawn_row(draw, language, most):
    """A said row with about so many pairs."""
    inner = [("operand", "a"), ("operand", "b7")]
    nodes = [(row[1], row[0]) for row in language.rows] + [("kept", pair[0]) for pair in language.pairs[1:]]
    row = []
    wanted = 1
    while wanted:
        ends = not nodes or len(row) + wanted >= most or draw.random() < 0.3
        row.append(draw.choice(inner if ends else nodes))
        wanted += {"operand": -1, "between": 1}.get(row[-1][0], 0)
    return tuple(row)
