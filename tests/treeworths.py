"""Worths of trees by the words of the document, on tables alone ([22], [24], [25])."""

from anyhalf.rolesof import roles_along
from anyhalf.tables import children, root_of


def p(size, a, b):
    """plus."""
    if size == 0:
        known = [n for n in (a, b) if n is not None]
        return max(known) if known else None
    return (a + b) % size


def t(size, a, b):
    """times."""
    if size == 0:
        return None if None in (a, b) else a + b
    return a * b % size


def nought(size):
    return None if size == 0 else 0


def one(size):
    return 0 if size == 0 else 1


class Worths:
    """Worths of the nodes of one tree; operands in `given` have the worth that is given."""

    def __init__(self, language, words, table, given=()):
        self.language = language
        self.words = words
        self.table = table
        self.roles = roles_along(language, words)
        self.given = dict(given)

    def root(self):
        return self.node(root_of(self.table))

    def node(self, i):
        size, values, default, forms, kept = self.language.reckoning
        kind, number = self.roles[i]
        below = children(self.table, i)
        if kind == "operand":
            return self.given.get(i, dict(values).get(self.words[i], default))
        if kind == "close":
            content = self.node(below[1])
            return content if number == 0 else self.line(kept[number - 1], content)
        if kind == "between":
            return self.sheet(forms[number], self.node(below[0]), self.node(below[1]))
        return self.line(forms[number], self.node(below[0]))

    def line(self, line, x):
        size = self.language.reckoning[0]
        return p(size, t(size, line[0], x), line[1])

    def sheet(self, sheet, x, y):
        size = self.language.reckoning[0]
        first, second, third, fourth = sheet
        both = t(size, t(size, first, x), y)
        return p(size, p(size, both, t(size, second, x)), p(size, t(size, third, y), fourth))


class Formulas(Worths):
    """The same with formulas for numbers: dicts from the texts "", "x", "y", "xy" to coefficients."""

    def node(self, i):
        found = Worths.node(self, i)
        return found if isinstance(found, dict) else {"": found}

    def line(self, line, x):
        return self.sum(self.product({"": line[0]}, x), {"": line[1]})

    def sheet(self, sheet, x, y):
        parts = (self.product(self.product({"": sheet[0]}, x), y), self.product({"": sheet[1]}, x),
                 self.product({"": sheet[2]}, y), {"": sheet[3]})
        found = {}
        for part in parts:
            found = self.sum(found, part)
        return found

    def sum(self, a, b):
        size = self.language.reckoning[0]
        return {key: p(size, a.get(key, nought(size)), b.get(key, nought(size))) for key in sorted(set(a) | set(b))}

    def product(self, a, b):
        size = self.language.reckoning[0]
        found = {}
        for first, m in a.items():
            for second, n in b.items():
                key = "".join(sorted(first + second))
                found = self.sum(found, {key: t(size, m, n)})
        return found
