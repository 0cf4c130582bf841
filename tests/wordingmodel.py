"""Wordings of said rows, all of them, by the words of the document ([27], [28]): trees are nested tuples."""

from itertools import product

from anyhalf.bonds import bond
from anyhalf.languages import made_language
from anyhalf.plainread import read_plain
from anyhalf.saidreads import said
from tests.common import E, drawn_language, drawn_row, split

WIDE_WORDS = tuple("w" + letter for letter in "abcdefghijklmnopqrstuvwx")
MANY = {"operand": 0, "between": 2}


def row_in(text, language=E):
    """The said row of some words."""
    words = split(text)
    return said(language, words, read_plain(language, words)[2])


def small_rows(draw, most, times):
    """Drawn languages with drawn rows in them that have few nodes with rows."""
    for _ in range(times):
        language = drawn_language(draw)
        row = drawn_row(draw, language, draw.randint(1, 14))
        if nodes_with_rows(row) <= most:
            yield language, row


def wide_language(draw):
    """A language with as many levels and rows as can be."""
    roles = ("ahead", "between", "between", "behind")
    rows = tuple((word, draw.choice(roles), draw.randint(1, 24)) for word in WIDE_WORDS)
    levels = tuple(draw.choice(("left", "right", "none")) for _ in range(24))
    return made_language(levels, rows, (("(", ")"), ("[", "]")))


def chain(draw, language, most):
    """A said row of so many pairs, in which each node hangs under the one before it or is an operand."""
    ahead = []
    behind = [("operand", "z")]
    while len(ahead) + len(behind) < most:
        word, role, _ = draw.choice(language.rows)
        if role != "between":
            ahead.append((role, word))
        elif len(ahead) + len(behind) < most - 1:
            ahead.append((role, word))
            draw.choice((ahead, behind)).append(("operand", "z"))
    return tuple(ahead + behind)


def tree_of(row):
    """(kind, word, children), the children being such trees."""
    tree, rest = tree_ahead(row)
    assert rest == ()
    return tree


def tree_ahead(row):
    kind, word = row[0]
    rest = row[1:]
    below = []
    for _ in range(MANY.get(kind, 1)):
        child, rest = tree_ahead(rest)
        below.append(child)
    return (kind, word, tuple(below)), rest


def words_with(language, tree, paired):
    """The words of a wording; paired has True or False for each node ahead, between and behind, each one before its
    children, and is used up."""
    kind, word, below = tree
    if kind == "operand":
        return (word,)
    if kind == "kept":
        closing = [pair[1] for pair in language.pairs if pair[0] == word][0]
        return (word,) + words_with(language, below[0], paired) + (closing,)
    in_pair = paired.pop(0)
    parts = [words_with(language, child, paired) for child in below]
    if kind == "ahead":
        words = (word,) + parts[0]
    elif kind == "behind":
        words = parts[0] + (word,)
    else:
        words = parts[0] + (word,) + parts[1]
    return (language.pairs[0][0],) + words + (language.pairs[0][1],) if in_pair else words


def nodes_with_rows(row):
    return len([kind for kind, _ in row if kind in ("ahead", "between", "behind")])


def all_wordings(language, row):
    """A triple (paired, words, whether they are read as the row) for each wording."""
    tree = tree_of(row)
    found = []
    for paired in product((False, True), repeat=nodes_with_rows(row)):
        words = words_with(language, tree, list(paired))
        found.append((paired, words, is_read_as(language, words, row)))
    return found


def is_read_as(language, words, row):
    kind, _, table = read_plain(language, words)
    return kind == "" and said(language, words, table) == row


def number_of(language, kind, word):
    return [at for at, row in enumerate(language.rows) if row[:2] == (word, kind)][0]


def all_may_be_bare(language, tree, paired, a=None, b=None):
    """Whether each bare node may be bare; paired as above."""
    kind, word, below = tree
    if kind == "operand":
        return True
    if kind == "kept":
        return all_may_be_bare(language, below[0], paired)
    n = number_of(language, kind, word)
    fits = True
    if paired.pop(0):
        a = b = None
    else:
        if kind in ("between", "behind"):
            fits = a is None or bond(language, a, n) == 0
        if kind in ("ahead", "between"):
            fits = fits and (b is None or bond(language, n, b) == 1)
    contexts = {"ahead": [(n, b)], "behind": [(a, n)], "between": [(a, n), (n, b)]}[kind]
    beneath = [all_may_be_bare(language, child, paired, *context) for child, context in zip(below, contexts)]
    return fits and all(beneath)


def least_in(language, tree, a=None, b=None, known=None):
    """The least number of plain pairs of a tree in a context, by [28] alone."""
    known = {} if known is None else known
    key = (id(tree), a, b)
    if key not in known:
        known[key] = least_beneath(language, tree, a, b, known)
    return known[key]


def least_beneath(language, tree, a, b, known):
    kind, word, below = tree
    if kind == "operand":
        return 0
    if kind == "kept":
        return least_in(language, below[0], None, None, known)
    n = number_of(language, kind, word)
    ways = [(1, None, None)]
    fits = kind == "ahead" or a is None or bond(language, a, n) == 0
    if fits and (kind == "behind" or b is None or bond(language, n, b) == 1):
        ways.append((0, a, b))
    costs = []
    for own, ahead, behind in ways:
        contexts = {"ahead": [(n, behind)], "behind": [(ahead, n)], "between": [(ahead, n), (n, behind)]}[kind]
        costs.append(own + sum(least_in(language, child, *context, known) for child, context in zip(below, contexts)))
    return min(costs)
