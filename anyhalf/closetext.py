"""Words closed up to a text ([30])."""

from anyhalf.alphabet import glue
from anyhalf.checks import check_words


def close_text(words):
    """The words one behind the other, with a blank only where two would become one word."""
    check_words(words)
    parts = []
    for at, word in enumerate(words):
        if at > 0 and glue(words[at - 1][-1], word[0]):
            parts.append(" ")
        parts.append(word)
    return "".join(parts)
