"""Halves of rows of words, and those of none and of one ([10] to [15])."""

from anyhalf.formsof import bracket_line, form_of_row, worth_of_operand
from anyhalf.rolesof import NO_ROLE, check_word, fault_at, role_at
from anyhalf.sides import Run, Side, Take, faulty_side


class Half:
    """Both sides of a row of words; made by functions alone and never changed."""

    def __init__(self, many, fresh, held):
        self.many = many
        self.fresh = fresh
        self.held = held


def empty_half(language):
    """The half of no words."""
    return Half(0, Side(True), Side(False))


def word_half(language, word):
    """The half of one word."""
    check_word(word)
    return Half(1, word_side(language, word, False), word_side(language, word, True))


def many_of(half):
    """How many words a half has."""
    return half.many


def word_side(language, word, have):
    """The side of one word, read from this state."""
    role = role_at(language, word, have)
    if role == NO_ROLE:
        return faulty_side(fault_at(language, word, have), 0)
    kind, number = role
    if kind == "operand":
        return operand_side(language, word)
    if kind == "open":
        return waiting_side(Run(0, 0, -1, number, None))
    if kind == "close":
        return taking_side(Take(0, -1, number), bracket_line(language, number))
    worth = form_of_row(language, number)
    if kind == "ahead":
        return waiting_side(Run(0, 0, number, -1, worth))
    if kind == "behind":
        return taking_side(Take(0, number, -1), worth)
    side = waiting_side(Run(0, 0, number, -1, worth))
    side.takes = (Take(0, number, -1),)
    return side


def operand_side(language, word):
    """The side of an operand."""
    side = Side(False)
    side.done = 0
    side.done_worth = worth_of_operand(language, word)
    return side


def waiting_side(run):
    """The side of a word that waits, or of an opening bracket."""
    side = Side(True)
    side.runs = (run,)
    return side


def taking_side(take, line):
    """The side of a word that takes and does not wait, or of a closing bracket."""
    side = Side(False)
    side.takes = (take,)
    side.done = 0
    side.done_worth = line
    return side
