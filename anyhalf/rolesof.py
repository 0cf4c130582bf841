"""Roles of words, by whether an operand is wanted or there ([4])."""

from anyhalf.alphabet import is_word
from anyhalf.errors import BadWord
from anyhalf.languages import is_operand

NO_ROLE = ("fault", -1)


def role_of(language, word, have):
    """The role of a word in this state; ("fault", -1) if it cannot stand there."""
    check_word(word)
    return role_at(language, word, have)


def fault_of(language, word, have):
    """The kind of the fault of a word in this state; an empty text if it can stand there."""
    check_word(word)
    return fault_at(language, word, have)


def check_word(word):
    """Refuse what is not one word by form."""
    if not is_word(word):
        raise BadWord(0)


def role_at(language, word, have):
    """role_of, for what is known to be a word."""
    if have:
        return role_there(language, word)
    return role_wanted(language, word)


def role_there(language, word):
    """The role of a word where an operand is there."""
    if word in language.after:
        row = language.after[word]
        return (language.rows[row][1], row)
    if word in language.closings:
        return ("close", language.closings[word])
    return NO_ROLE


def role_wanted(language, word):
    """The role of a word where an operand is wanted."""
    if word in language.ahead:
        return ("ahead", language.ahead[word])
    if word in language.openings:
        return ("open", language.openings[word])
    if is_operand(language, word):
        return ("operand", -1)
    return NO_ROLE


def fault_at(language, word, have):
    """fault_of, for what is known to be a word."""
    if role_at(language, word, have) != NO_ROLE:
        return ""
    if role_at(language, word, not have) == NO_ROLE:
        return "word"
    return "have" if have else "want"


def leaves_operand(kind):
    """Whether an operand is there behind a word in a role of this kind."""
    return kind in ("operand", "behind", "close")


def roles_along(language, words):
    """The roles of words in a row, from the first on, up to the first fault."""
    roles = []
    have = False
    for word in words:
        role = role_at(language, word, have)
        roles.append(role)
        if role == NO_ROLE:
            break
        have = leaves_operand(role[0])
    return roles
