"""Languages with reckonings ([22])."""

from anyhalf.checks import check_many, is_number_from, is_tuple_of
from anyhalf.errors import BadForm, BadKept, BadNumber, BadValue
from anyhalf.languages import Language, is_operand

VALUES_MOST = 50
SIZE_MOST = 10 ** 9
NUMBER_MOST = 10 ** 6


def reckoned(language, size, values, default, forms, kept):
    """The language with this reckoning in the place of its own."""
    if not is_size(size):
        raise BadNumber(size)
    check_values(language, size, values)
    if not is_reckoned(size, default):
        raise BadValue(-1)
    check_forms(language, size, forms)
    check_kept(language, size, kept)
    return Language(language.levels, language.rows, language.pairs, (size, values, default, forms, kept))


def is_size(size):
    """Whether any value is the size of a reckoning."""
    return is_number_from(size, 0, SIZE_MOST) and size != 1


def is_reckoned(size, value):
    """Whether any value is a number of the reckoning."""
    if size > 0:
        return is_number_from(value, 0, size - 1)
    return value is None or is_number_from(value, -NUMBER_MOST, NUMBER_MOST)


def is_form(size, form, many):
    """Whether any value is a tuple of so many numbers of the reckoning."""
    return is_tuple_of(form, many) and all([is_reckoned(size, value) for value in form])


def check_values(language, size, values):
    """Refuse values without their form, and an operand that is not above the one before it."""
    check_many(values, 0, VALUES_MOST)
    before = ""
    for at, value in enumerate(values):
        if not is_tuple_of(value, 2) or not is_operand(language, value[0]) or not is_reckoned(size, value[1]):
            raise BadValue(at)
        if value[0] <= before:
            raise BadValue(at)
        before = value[0]


def check_forms(language, size, forms):
    """Refuse forms that are not one for each row, with as many numbers as its role asks for."""
    if len(forms) != len(language.rows):
        raise BadForm(len(forms))
    for at, form in enumerate(forms):
        if not is_form(size, form, 4 if language.rows[at][1] == "between" else 2):
            raise BadForm(at)


def check_kept(language, size, kept):
    """Refuse forms that are not one for each pair but the first."""
    if len(kept) != len(language.pairs) - 1:
        raise BadKept(len(kept))
    for at, form in enumerate(kept):
        if not is_form(size, form, 2):
            raise BadKept(at)
