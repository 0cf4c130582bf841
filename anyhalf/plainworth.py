"""Worths of trees, reckoned from their operands up ([24])."""

from anyhalf.checks import check_words
from anyhalf.forms import check_reckoning, on_line, on_sheet
from anyhalf.formsof import bracket_line, form_of_row, worth_of_operand
from anyhalf.rolesof import roles_along
from anyhalf.tables import hanging, root_of, words_beneath


def worth_plain(language, words, table):
    """The worth of the root."""
    check_reckoning(language)
    check_words(words)
    return all_worths(language, words, table)[root_of(table)]


def all_worths(language, words, table):
    """The worth of what stands at each word; opening words have none."""
    roles = roles_along(language, words)
    lists = hanging(table)
    worths = [None] * len(words)
    for at in words_beneath(lists, root_of(table))[::-1]:
        if roles[at][0] == "operand":
            worths[at] = worth_of_operand(language, words[at])
        elif roles[at][0] != "open":
            worths[at] = worth_above(language, roles[at], [worths[child] for child in lists[at]])
    return worths


def worth_above(language, role, below):
    """The worth of a node by its role and the worths of what hangs under it."""
    kind, number = role
    if kind == "between":
        return on_sheet(language, form_of_row(language, number), below[0], below[1])
    return on_line(language, line_of_role(language, role), below[-1])


def line_of_role(language, role):
    """The line that a node with a single operand makes of it."""
    kind, number = role
    if kind == "close":
        return bracket_line(language, number)
    return form_of_row(language, number)
