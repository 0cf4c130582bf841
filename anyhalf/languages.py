"""Languages: their levels, rows of words and pairs of brackets ([3])."""

from anyhalf.alphabet import NAMES, is_bracket, is_short_word
from anyhalf.checks import check_many, is_number_from, is_tuple_of
from anyhalf.errors import BadLevel, BadPair, BadRow

LEVELS_MOST = 24
ROWS_MOST = 24
PAIRS_MOST = 3
SIDES = ("left", "right", "none")
ROLES = ("ahead", "between", "behind")


class Language:
    """An operator language; made by functions alone.

    Beside the attributes of the document it keeps which row or pair a word has
    where an operand is wanted (`ahead`, `openings`) and where one is there
    (`after`, `closings`).
    """

    def __init__(self, levels, rows, pairs, reckoning=None):
        self.levels = levels
        self.rows = rows
        self.pairs = pairs
        self.reckoning = reckoning
        self.ahead = {row[0]: at for at, row in enumerate(rows) if row[1] == "ahead"}
        self.after = {row[0]: at for at, row in enumerate(rows) if row[1] != "ahead"}
        self.openings = {pair[0]: at for at, pair in enumerate(pairs)}
        self.closings = {pair[1]: at for at, pair in enumerate(pairs)}

    def __eq__(self, other):
        return (isinstance(other, Language) and self.levels == other.levels and self.rows == other.rows
                and self.pairs == other.pairs and self.reckoning == other.reckoning)


def made_language(levels, rows, pairs):
    """The language of these levels, rows and pairs, without a reckoning."""
    check_levels(levels)
    check_rows(rows, len(levels))
    check_pairs(pairs)
    return Language(levels, rows, pairs)


def check_levels(levels):
    """Refuse levels that are too few or too many, or that have no side."""
    check_many(levels, 1, LEVELS_MOST)
    for at, side in enumerate(levels):
        if side not in SIDES:
            raise BadLevel(at)


def check_rows(rows, highest):
    """Refuse rows without their form, and a second row of a word in a role that it has."""
    check_many(rows, 0, ROWS_MOST)
    for at, row in enumerate(rows):
        if not row_fits(row, highest, rows[:at]):
            raise BadRow(at)


def row_fits(row, highest, earlier):
    """Whether any value can be a row of a language with so many levels, behind these earlier rows."""
    if not is_row(row, highest):
        return False
    return (row[0], row[1] == "ahead") not in [(other[0], other[1] == "ahead") for other in earlier]


def is_row(row, highest):
    """Whether any value has the form of a row of a language with so many levels."""
    if not is_tuple_of(row, 3):
        return False
    word, role, level = row
    return is_short_word(word) and role in ROLES and is_number_from(level, 1, highest)


def check_pairs(pairs):
    """Refuse pairs without their form, and a bracket sign that comes again."""
    check_many(pairs, 1, PAIRS_MOST)
    for at, pair in enumerate(pairs):
        if not pair_fits(pair, pairs[:at]):
            raise BadPair(at)


def pair_fits(pair, earlier):
    """Whether any value can be a pair of a language, behind these earlier pairs."""
    if not is_tuple_of(pair, 2) or not is_bracket(pair[0]) or not is_bracket(pair[1]):
        return False
    stood = [sign for other in earlier for sign in other]
    return pair[0] != pair[1] and pair[0] not in stood and pair[1] not in stood


def level_of(language, row):
    """The number of the level of a row."""
    return language.rows[row][2]


def is_operand(language, word):
    """Whether any value is an operand of the language."""
    if not is_short_word(word) or word[0] not in NAMES:
        return False
    return word not in language.ahead and word not in language.after


def free_name(language):
    """The first of a, b, .., y that stands in no row; with 24 rows one is always left."""
    free = [sign for sign in NAMES[:25] if is_operand(language, sign)]
    return free[0]
