"""Languages as texts ([40])."""

from anyhalf.errors import BadLine
from anyhalf.languages import LEVELS_MOST, PAIRS_MOST, ROWS_MOST, SIDES, made_language, pair_fits, row_fits
from anyhalf.numerals import number_in


class Lines:
    """What the lines up to now tell of a language. Each method tells whether its line is good beside them."""

    def __init__(self):
        self.levels = []
        self.rows = []
        self.pairs = []

    def read_line(self, line):
        """Any line."""
        words = line.split(" ")
        if words[0] == "level" and len(words) == 2:
            return self.read_level(words[1])
        if words[0] == "row" and len(words) == 4:
            return self.read_row((words[1], words[2], number_in(words[3])))
        if words[0] == "pair" and len(words) == 3:
            return self.read_pair((words[1], words[2]))
        return False

    def read_level(self, side):
        """A level."""
        if self.rows or self.pairs or len(self.levels) == LEVELS_MOST or side not in SIDES:
            return False
        self.levels.append(side)
        return True

    def read_row(self, row):
        """A row; without a level it has none that it could be on."""
        if self.pairs or len(self.rows) == ROWS_MOST or not row_fits(row, len(self.levels), self.rows):
            return False
        self.rows.append(row)
        return True

    def read_pair(self, pair):
        """A pair."""
        if not self.levels or len(self.pairs) == PAIRS_MOST or not pair_fits(pair, self.pairs):
            return False
        self.pairs.append(pair)
        return True


def language_text(language):
    """The text of a language; its reckoning is not written."""
    levels = ["level " + side for side in language.levels]
    rows = [f"row {word} {role} {level}" for word, role, level in language.rows]
    pairs = [f"pair {opening} {closing}" for opening, closing in language.pairs]
    return "\n".join(levels + rows + pairs)


def language_of(text):
    """The language that a text tells."""
    read = Lines()
    lines = text.split("\n")
    for at, line in enumerate(lines):
        if not read.read_line(line):
            raise BadLine(at)
    if not read.pairs:
        raise BadLine(len(lines))
    return made_language(tuple(read.levels), tuple(read.rows), tuple(read.pairs))
