"""Words that hang elsewhere when a text is edited ([21])."""

from anyhalf.checks import check_place, check_signs_together, check_text
from anyhalf.errors import NoReading
from anyhalf.plainread import read_plain
from anyhalf.signs import spans_of, words_of


def moved(language, text, at, gone, put):
    """The old numbers of all words that stand and have another parent."""
    check_text(text)
    check_place(at, 0, len(text))
    check_place(gone, 0, len(text) - at)
    check_text(put)
    check_signs_together(len(text) - gone + len(put))
    new_text = text[:at] + put + text[at + gone:]
    old = table_in(language, text, 0)
    new = table_in(language, new_text, 1)
    new_numbers = standing_words(spans_of(text), spans_of(new_text), (at, at + gone, at + len(put)))
    return tuple([word for word in new_numbers if has_moved(old, new, new_numbers, word)])


def table_in(language, text, which):
    """The table of the reading of the old text (0) or the new one (1)."""
    kind, number, table = read_plain(language, words_of(text))
    if kind != "":
        raise NoReading((which, kind, number))
    return table


def standing_words(old, new, edit):
    """The new number of each old word that stands, by the spans of both texts.

    The edit has where it begins, where it ends in the old text, and where in the new one.
    """
    begin, old_end, new_end = edit
    shift = new_end - old_end
    numbers = {span: number for number, span in enumerate(new)}
    standing = {}
    for word, (first, end) in enumerate(old):
        if end <= begin:
            span = (first, end)
        elif first >= old_end:
            span = (first + shift, end + shift)
        else:
            continue
        if span in numbers:
            standing[word] = numbers[span]
    return standing


def has_moved(old, new, new_numbers, word):
    """Whether a word that stands has another parent in the new table."""
    parent = old[word]
    new_parent = new[new_numbers[word]]
    if parent == -1:
        return new_parent != -1
    return parent not in new_numbers or new_numbers[parent] != new_parent
