"""What operands, rows and brackets have in the reckoning of a language ([22], [24])."""

from anyhalf.forms import nought_of, one_of


def worth_of_operand(language, word):
    """The worth of an operand; None without a reckoning."""
    if language.reckoning is None:
        return None
    values = language.reckoning[1]
    found = [number for operand, number in values if operand == word]
    return found[0] if found else language.reckoning[2]


def form_of_row(language, row):
    """The line or the sheet of a row; None without a reckoning."""
    if language.reckoning is None:
        return None
    return language.reckoning[3][row]


def bracket_line(language, pair):
    """The line of a bracket; None without a reckoning. A plain one leaves its content's worth."""
    if language.reckoning is None:
        return None
    if pair == 0:
        return (one_of(language), nought_of(language))
    return language.reckoning[4][pair - 1]
