"""Worths of trees as lines of one operand's worth, and as sheets of two ([25])."""

from anyhalf.checks import check_words, is_number_from
from anyhalf.errors import NoSuch
from anyhalf.forms import (check_reckoning, left_line, line_of_line, line_of_sheet, nought_of, one_of, right_line,
                           sheet_left, sheet_right)
from anyhalf.formsof import form_of_row
from anyhalf.plainworth import all_worths, line_of_role
from anyhalf.rolesof import roles_along
from anyhalf.tables import hanging
from anyhalf.walks import over


class Ascent:
    """A tree with all that is needed to go up in it: roles, what hangs where, worths."""

    def __init__(self, language, words, table):
        self.language = language
        self.table = table
        self.roles = roles_along(language, words)
        self.lists = hanging(table)
        self.worths = all_worths(language, words, table)

    def step(self, at):
        """The worth of the node above a word, as a line of that word's worth."""
        above = self.table[at]
        role = self.roles[above]
        if role[0] != "between":
            return line_of_role(self.language, role)
        sheet = form_of_row(self.language, role[1])
        left, right = self.lists[above]
        if at == left:
            return sheet_right(self.language, sheet, self.worths[right])
        return sheet_left(self.language, sheet, self.worths[left])

    def line_below(self, at, top):
        """The worth of the node just below the top as a line of the worth of a word beneath it."""
        line = (one_of(self.language), nought_of(self.language))
        while self.table[at] != top:
            line = line_of_line(self.language, self.step(at), line)
            at = self.table[at]
        return line

    def sheet_at(self, top, i, j):
        """The worth of a between word as a sheet of the worths of i left of it and j right of it."""
        sheet = form_of_row(self.language, self.roles[top][1])
        sheet = left_line(self.language, sheet, self.line_below(i, top))
        return right_line(self.language, sheet, self.line_below(j, top))


def slope(language, words, table, i):
    """The worth of the root as a line of the worth of operand i."""
    check_reckoning(language)
    check_words(words)
    check_operand(roles_along(language, words), i)
    return Ascent(language, words, table).line_below(i, -1)


def sheet_of(language, words, table, i, j):
    """The worth of the root as a sheet of the worths of the operands i and j."""
    check_reckoning(language)
    check_words(words)
    roles = roles_along(language, words)
    check_operand(roles, i)
    check_operand(roles, j)
    if i == j:
        raise NoSuch(j)
    ascent = Ascent(language, words, table)
    at = over(table, i, j)
    p, q, r, s = ascent.sheet_at(at, min(i, j), max(i, j))
    sheet = (p, q, r, s) if i < j else (p, r, q, s)
    while table[at] != -1:
        sheet = line_of_sheet(language, ascent.step(at), sheet)
        at = table[at]
    return sheet


def check_operand(roles, i):
    """Refuse what is not the number of an operand."""
    if not is_number_from(i, 0, len(roles) - 1) or roles[i][0] != "operand":
        raise NoSuch(i)
