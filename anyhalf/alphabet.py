"""The signs of texts and the forms of words ([1], [2])."""

NAMES = "abcdefghijklmnopqrstuvwxyz0123456789"
MARKS = "!#$&*+-./:<=>?@^_|~"
BRACKETS = "()[]{}"
BLANKS = " \n"
SIGNS = NAMES + MARKS + BRACKETS + BLANKS


def all_among(word, signs):
    """Whether a text is not empty and all its signs are among these."""
    return word != "" and word.strip(signs) == ""


def is_bracket(sign):
    """Whether any value is a single bracket sign."""
    return isinstance(sign, str) and len(sign) == 1 and sign in BRACKETS


def is_word(word):
    """Whether any value is one word by form."""
    if not isinstance(word, str):
        return False
    return all_among(word, NAMES) or all_among(word, MARKS) or is_bracket(word)


def is_short_word(word):
    """Whether any value is a word that a row of a language may have."""
    if not isinstance(word, str) or len(word) > 12:
        return False
    return all_among(word, NAMES) or all_among(word, MARKS)


def glue(one, two):
    """Whether two signs that follow each other are of one word."""
    return (one in NAMES and two in NAMES) or (one in MARKS and two in MARKS)


def may_glue(sign):
    """Whether a sign may be of one word with another one."""
    return sign in NAMES or sign in MARKS
