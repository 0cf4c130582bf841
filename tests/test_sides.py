"""What the sides of halves keep of worths ([22] to [24])."""

import random

from anyhalf.forms import on_line, on_sheet, sheet_left
from anyhalf.plainread import read_plain
from anyhalf.rolesof import roles_along
from anyhalf.tables import children, root_of
from tests.common import E, Case, drawn_language, drawn_words, half_in_order, reckoned


def plain_worth(language, words, table, i):
    """The worth of word i, by the words of the document."""
    _, values, default, forms, kept = language.reckoning
    kind, number = roles_along(language, words)[i]
    worths = [plain_worth(language, words, table, child) for child in children(table, i)]
    if kind == "operand":
        return dict(values).get(words[i], default)
    if kind == "open":
        return "no worth"
    if kind == "between":
        return on_sheet(language, forms[number], *worths)
    if kind == "close":
        return on_line(language, kept[number - 1], worths[1]) if number else worths[1]
    return on_line(language, forms[number], worths[0])


def kept_worth(language, half):
    """The worth of a half that is read without a fault, from what its fresh side keeps."""
    side = half.fresh
    taken = side.start_worth
    for take in side.takes[:-1]:
        taken = on_line(language, take.line, taken)
    if not side.runs:
        return on_line(language, side.done_worth, taken) if side.takes else side.done_worth
    lines = [run.worth for run in side.runs]
    if side.takes:
        lines[0] = sheet_left(language, lines[0], taken)
    worth = side.done_worth
    for line in lines[::-1]:
        worth = on_line(language, line, worth)
    return worth


class SidesTest(Case):
    def test_worths(self):
        draw = random.Random(19)
        many = 0
        while many < 1500:
            size = draw.choice((0, 0, 2, 3, 10, 10 ** 9))
            language = reckoned(draw, drawn_language(draw) if draw.random() < 0.5 else E, size)
            words = drawn_words(draw, language, draw.randint(1, 16), 0)
            table = read_plain(language, words)[2]
            if table:
                many += 1
                half = half_in_order(draw, language, words)
                expected = plain_worth(language, words, table, root_of(table))
                self.assertEqual(kept_worth(language, half), expected, words)
