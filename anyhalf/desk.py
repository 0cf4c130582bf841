"""Rows that ask something of a book, or have it do something ([40])."""

from anyhalf.bookasks import fault, least_of, missing, place, said_of, stretch_of, table, worth_of
from anyhalf.closetext import close_text
from anyhalf.errors import BadLine
from anyhalf.numerals import NO_NUMBER, number_in
from anyhalf.saidtext import said_text
from anyhalf.tabletext import table_text

DONE = "ok"
GOOD = "good"
LINE_END = ";"


def undo_line(book):
    """The answer to "undo"."""
    book.undo()
    return DONE


def redo_line(book):
    """The answer to "redo"."""
    book.redo()
    return DONE


def text_line(book):
    """The answer to "text"."""
    return book.text().replace("\n", LINE_END)


def read_line(book):
    """The answer to "read"."""
    found = fault(book)
    if found == ():
        return GOOD
    kind, number, _, row, column = found
    return f"{kind} {number} {row} {column}"


def table_line(book):
    """The answer to "table"."""
    return table_text(table(book))


def said_line(book):
    """The answer to "said"."""
    return said_text(book.language, said_of(book))


def least_line(book):
    """The answer to "least"."""
    return least_of(book)


def missing_line(book):
    """The answer to "missing"."""
    ahead, behind = missing(book)
    return close_text(ahead) + " .. " + close_text(behind)


def worth_line(book):
    """The answer to "worth"."""
    found = worth_of(book)
    return "none" if found is None else str(found)


def shape_line(book):
    """The answer to "shape"."""
    return ";".join([f"{high} {signs}" for high, signs in book.shape()])


def where_line(book, k):
    """The answer to "where"."""
    sign, row, column = place(book, k)
    return f"{sign} {row} {column}"


def stretch_line(book, a, b):
    """The answer to "stretch"."""
    kind, number, _ = stretch_of(book, a, b)
    return GOOD if kind == "" else f"{kind} {number}"


def put_line(book, at, gone, text):
    """The answer to "put"; the text has LINE_END for each line end."""
    book.put(at, gone, text.replace(LINE_END, "\n"))
    return DONE


WHOLE_ROWS = {
    "undo": undo_line,
    "redo": redo_line,
    "text": text_line,
    "read": read_line,
    "table": table_line,
    "said": said_line,
    "least": least_line,
    "missing": missing_line,
    "worth": worth_line,
    "shape": shape_line,
}


def answer(book, row):
    """Do or answer what one row says."""
    if row in WHOLE_ROWS:
        action = WHOLE_ROWS[row]
        return action(book)
    words = row.split(" ", 3)
    numbers = [number_in(word) for word in words[1:3]]
    if "\n" in row or NO_NUMBER in numbers:
        raise BadLine(row)
    kind = words[0]
    if kind == "where" and len(words) == 2:
        return where_line(book, numbers[0])
    if kind == "stretch" and len(words) == 3:
        return stretch_line(book, numbers[0], numbers[1])
    if kind == "put" and len(words) > 2 and words[3:] != [""]:
        return put_line(book, numbers[0], numbers[1], "".join(words[3:]))
    raise BadLine(row)
