"""Lessons, their demands, classes and rings by the words of the document ([33] to [35])."""

from itertools import product

from anyhalf.bonds import bond
from anyhalf.languages import made_language
from anyhalf.plainread import read_plain
from anyhalf.rolesof import roles_along
from anyhalf.tables import children
from tests.common import drawn_row, good_words
from tests.wordingmodel import nodes_with_rows, tree_of

WAITING = ("ahead", "between")
TAKING = ("between", "behind")


def roles_rows(language):
    return tuple(row[:2] for row in language.rows)


def other_levels(draw, language, most=4):
    """A language with the same words and roles on other levels."""
    many = draw.randint(1, most)
    levels = tuple(draw.choice(("left", "right", "none")) for _ in range(many))
    rows = tuple((word, role, draw.randint(1, many)) for word, role, _ in language.rows)
    return made_language(levels, rows, language.pairs)


def read_lesson(draw, language, many):
    """A lesson as the language reads it."""
    words = good_words(draw, language, many)
    return words, read_plain(language, words)[2]


def free_lesson(draw, language, many):
    """A lesson of which no language needs to read the words so."""
    row = drawn_row(draw, language, many)
    paired = [draw.random() < 0.2 for _ in range(nodes_with_rows(row))]
    words, table, _ = laid_out(language, tree_of(row), paired, 0)
    return words, table


def laid_out(language, tree, paired, begin):
    """The words of a tree, its table with words numbered from `begin` on and 0 for the parent of the root, the root."""
    kind, word, below = tree
    if kind == "operand":
        return (word,), (-1,), begin
    if kind == "kept":
        pair = [pair for pair in language.pairs if pair[0] == word][0]
        return bracketed(pair, laid_out(language, below[0], paired, begin + 1), begin)
    if paired.pop(0):
        pair = language.pairs[0]
        return bracketed(pair, laid_out_bare(language, tree, paired, begin + 1), begin)
    return laid_out_bare(language, tree, paired, begin)


def laid_out_bare(language, tree, paired, begin):
    kind, word, below = tree
    first = ((), (), None) if kind == "ahead" else laid_out(language, below[0], paired, begin)
    root = begin + len(first[0])
    second = ((), (), None) if kind == "behind" else laid_out(language, below[-1], paired, root + 1)
    table = hung(first, begin, root) + (-1,) + hung(second, root + 1, root)
    return first[0] + (word,) + second[0], table, root


def bracketed(pair, inner, begin):
    words, _, _ = inner
    closing = begin + 1 + len(words)
    return (pair[0],) + words + (pair[1],), (closing,) + hung(inner, begin + 1, closing) + (-1,), closing


def hung(part, begin, parent):
    """The table of a part that begins at a word, with its root under the parent."""
    _, table, root = part
    return tuple(parent if begin + at == root else up for at, up in enumerate(table))


def demands_by_hand(language, lesson):
    """All pairs of words that are met, found one from another until no more are."""
    words, table = lesson
    roles = roles_along(language, words)
    below = [children(table, at) for at in range(len(words))]
    found = set()
    for u in [at for at, role in enumerate(roles) if role[0] in TAKING]:
        met = {below[u][0]}
        while True:
            more = {below[t][-1] for t in met if roles[t][0] in WAITING} - met
            if not more:
                break
            met |= more
        found |= {(roles[t][1], roles[u][1], 1) for t in met if roles[t][0] in WAITING}
    for t in [at for at, role in enumerate(roles) if role[0] in WAITING]:
        met = {below[t][-1]}
        while True:
            more = {below[u][0] for u in met if roles[u][0] in TAKING} - met
            if not more:
                break
            met |= more
        found |= {(roles[t][1], roles[u][1], 0) for u in met if roles[u][0] in TAKING}
    return tuple(sorted(found))


def holds(language, steps):
    return all(bond(language, t, u) == told for t, u, told in steps)


def led(step):
    """From which row to which one."""
    t, u, told = step
    return (t, u) if told == 1 else (u, t)


def classes_by_hand(many, steps):
    """For each row the set of the rows of its class."""
    leads = [[one == two for two in range(many)] for one in range(many)]
    for step in steps:
        begin, end = led(step)
        leads[begin][end] = True
    for over, one, two in product(range(many), repeat=3):
        leads[one][two] = leads[one][two] or (leads[one][over] and leads[over][two])
    return [frozenset(two for two in range(many) if leads[one][two] and leads[two][one]) for one in range(many)]


def has_ring(many, steps):
    for members in classes_by_hand(many, steps):
        found = {told for t, u, told in steps if t in members and u in members}
        if found == {0, 1}:
            return True
    return False


def language_by_hand(rows, pairs, steps):
    """The language of lessons without a ring: levels from 1 on."""
    classes = classes_by_hand(len(rows), steps)
    left = set(classes)
    levels = []
    level_of = {}
    while left:
        free = [members for members in left
                if not any(classes[led(step)[0]] == members and classes[led(step)[1]] in left - {members}
                           for step in steps)]
        members = min(free, key=min)
        left.remove(members)
        right = any(told == 0 and t in members and u in members for t, u, told in steps)
        levels.append("right" if right else "left")
        for row in members:
            level_of[row] = len(levels)
    levelled = tuple((word, role, level_of[at]) for at, (word, role) in enumerate(rows))
    return made_language(tuple(levels) or ("left",), levelled, pairs)


def is_ring(steps, paper):
    """Whether a tuple of triples is a right ring of these demands."""
    ends = [led(step)[1] for step in paper]
    begins = [led(step)[0] for step in paper]
    return (2 <= len(paper) <= 50 and set(paper) <= set(steps) and ends == begins[1:] + begins[:1]
            and {told for _, _, told in paper} == {0, 1})
