"""Plus and times of a reckoning, and the lines and sheets over them ([22], [23])."""

from anyhalf.errors import NoWorth


def plus(language, a, b):
    """The plus of the reckoning."""
    return added(size_of(language), a, b)


def times(language, a, b):
    """The times of the reckoning."""
    return multiplied(size_of(language), a, b)


def on_line(language, line, x):
    """The worth of a line at x."""
    return line_at(size_of(language), line, x)


def on_sheet(language, sheet, x, y):
    """The worth of a sheet at x and y."""
    return on_line(language, sheet_left(language, sheet, x), y)


def line_of_line(language, outer, inner):
    """The line that the outer line is where the inner one stands in the place of x."""
    size = size_of(language)
    n, d = inner
    return (multiplied(size, outer[0], n), line_at(size, outer, d))


def sheet_left(language, sheet, x):
    """The line of y that is left of a sheet at x."""
    size = size_of(language)
    p, q, r, s = sheet
    return (line_at(size, (p, r), x), line_at(size, (q, s), x))


def sheet_right(language, sheet, y):
    """The line of x that is left of a sheet at y."""
    size = size_of(language)
    p, q, r, s = sheet
    return (line_at(size, (p, q), y), line_at(size, (r, s), y))


def left_line(language, sheet, line):
    """The sheet in which the line of x stands in the place of x."""
    size = size_of(language)
    p, q, r, s = sheet
    m, c = line
    return (multiplied(size, p, m), multiplied(size, q, m), line_at(size, (p, r), c), line_at(size, (q, s), c))


def right_line(language, sheet, line):
    """The sheet in which the line of y stands in the place of y."""
    size = size_of(language)
    p, q, r, s = sheet
    m, c = line
    return (multiplied(size, p, m), line_at(size, (p, q), c), multiplied(size, r, m), line_at(size, (r, s), c))


def line_of_sheet(language, line, sheet):
    """The sheet that is the line of the sheet."""
    size = size_of(language)
    p, q, r, s = sheet
    m = line[0]
    return (multiplied(size, m, p), multiplied(size, m, q), multiplied(size, m, r), line_at(size, line, s))


def check_reckoning(language):
    """Refuse a language without a reckoning."""
    if language.reckoning is None:
        raise NoWorth(0)


def size_of(language):
    """The size of the reckoning of a language."""
    check_reckoning(language)
    return language.reckoning[0]


def nought_of(language):
    """The number that plus leaves as the other one is."""
    return None if size_of(language) == 0 else 0


def one_of(language):
    """The number that times leaves as the other one is."""
    return 0 if size_of(language) == 0 else 1


def added(size, a, b):
    """The sum; with size 0 the greater one, None being less than all others."""
    if size > 0:
        return (a + b) % size
    if a is None:
        return b
    if b is None:
        return a
    return max(a, b)


def multiplied(size, a, b):
    """The product; with size 0 the sum, None if one of them is None."""
    if size > 0:
        return a * b % size
    if a is None or b is None:
        return None
    return a + b


def line_at(size, line, x):
    """m x + c."""
    m, c = line
    return added(size, multiplied(size, m, x), c)
