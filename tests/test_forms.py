import random

from anyhalf import forms
from anyhalf.errors import NoWorth
from anyhalf.languages import made_language
from anyhalf.reckon import reckoned
from tests.common import E, Case, with_reckoning
from tests.treeworths import p, t

SIZES = (0, 2, 3, 10, 97, 10 ** 9)


def language_of(size):
    """A language without rows, with the reckoning of this size."""
    return reckoned(made_language(("left",), (), (("(", ")"),)), size, (), 0, (), ())


def drawn_numbers(draw, size, many):
    if size == 0:
        return tuple(draw.choice((None, 0, draw.randint(-10 ** 6, 10 ** 6), draw.randint(-9, 9))) for _ in range(many))
    return tuple(draw.randrange(size) for _ in range(many))


class FormsTest(Case):
    def each(self):
        draw = random.Random(9)
        for size in SIZES:
            for _ in range(150):
                yield language_of(size), size, drawn_numbers(draw, size, 10)

    def test_no_reckoning(self):
        calls = {"plus": (1, 2), "times": (1, 2), "on_line": ((1, 2), 3), "on_sheet": ((1, 2, 3, 4), 5, 6),
                 "line_of_line": ((1, 2), (3, 4)), "sheet_left": ((1, 2, 3, 4), 5), "sheet_right": ((1, 2, 3, 4), 5),
                 "left_line": ((1, 2, 3, 4), (5, 6)), "right_line": ((1, 2, 3, 4), (5, 6)),
                 "line_of_sheet": ((1, 2), (3, 4, 5, 6))}
        for name, arguments in calls.items():
            self.refused(NoWorth, 0, getattr(forms, name), E, *arguments)
            getattr(forms, name)(language_of(0), *arguments)

    def test_numbers_with_size_0(self):
        language = language_of(0)
        self.assertEqual(forms.plus(language, 3, -4), 3)
        self.assertEqual(forms.plus(language, None, -4), -4)
        self.assertEqual(forms.plus(language, -4, None), -4)
        self.assertIsNone(forms.plus(language, None, None))
        self.assertEqual(forms.times(language, 3, -4), -1)
        self.assertIsNone(forms.times(language, None, 3))
        self.assertIsNone(forms.times(language, 3, None))
        self.assertIsNone(forms.times(language, None, None))
        self.assertEqual(forms.times(language, 10 ** 6, 10 ** 6), 2 * 10 ** 6)
        self.assertEqual(forms.on_line(language, (0, None), 7), 7)
        self.assertEqual(forms.on_line(language, (None, 5), 7), 5)
        self.assertEqual(forms.on_sheet(language, (None, 1, 1, None), 4, 2), 5)

    def test_numbers_with_a_size(self):
        language = language_of(10)
        self.assertEqual(forms.plus(language, 7, 6), 3)
        self.assertEqual(forms.times(language, 7, 6), 2)
        self.assertEqual(forms.on_line(language, (3, 4), 5), 9)
        self.assertEqual(forms.on_sheet(language, (1, 2, 3, 4), 5, 6), 2)
        self.assertEqual(forms.plus(language_of(2), 1, 1), 0)
        self.assertEqual(forms.times(language_of(10 ** 9), 10 ** 9 - 1, 10 ** 9 - 1), 1)

    def test_plus_and_times(self):
        for language, size, (a, b, *_) in self.each():
            self.assertEqual(forms.plus(language, a, b), p(size, a, b))
            self.assertEqual(forms.times(language, a, b), t(size, a, b))

    def test_worths(self):
        for language, size, (m, c, q, s, x, y, *_) in self.each():
            self.assertEqual(forms.on_line(language, (m, c), x), p(size, t(size, m, x), c))
            expected = p(size, p(size, t(size, t(size, m, x), y), t(size, c, x)), p(size, t(size, q, y), s))
            self.assertEqual(forms.on_sheet(language, (m, c, q, s), x, y), expected)

    def test_coefficients(self):
        for language, size, (a, b, c, d, m, n, *_) in self.each():
            def mul(x, y):
                return t(size, x, y)

            def both(x, y):
                return p(size, x, y)

            sheet = (a, b, c, d)
            self.assertEqual(forms.line_of_line(language, (a, b), (c, d)), (mul(a, c), both(mul(a, d), b)))
            self.assertEqual(forms.sheet_left(language, sheet, m), (both(mul(a, m), c), both(mul(b, m), d)))
            self.assertEqual(forms.sheet_right(language, sheet, m), (both(mul(a, m), b), both(mul(c, m), d)))
            self.assertEqual(forms.left_line(language, sheet, (m, n)),
                             (mul(a, m), mul(b, m), both(mul(a, n), c), both(mul(b, n), d)))
            self.assertEqual(forms.right_line(language, sheet, (m, n)),
                             (mul(a, m), both(mul(a, n), b), mul(c, m), both(mul(c, n), d)))
            self.assertEqual(forms.line_of_sheet(language, (m, n), sheet),
                             (mul(m, a), mul(m, b), mul(m, c), both(mul(m, d), n)))

    def test_what_they_stand_for(self):
        for language, _, (a, b, c, d, m, n, k, l, x, y) in self.each():
            sheet = (a, b, c, d)
            line = (m, n)

            def at(function, *arguments):
                return getattr(forms, function)(language, *arguments)

            self.assertEqual(at("on_line", at("line_of_line", line, (k, l)), x),
                             at("on_line", line, at("on_line", (k, l), x)))
            whole = at("on_sheet", sheet, x, y)
            self.assertEqual(at("on_line", at("sheet_left", sheet, x), y), whole)
            self.assertEqual(at("on_line", at("sheet_right", sheet, y), x), whole)
            self.assertEqual(at("on_sheet", at("left_line", sheet, line), x, y),
                             at("on_sheet", sheet, at("on_line", line, x), y))
            self.assertEqual(at("on_sheet", at("right_line", sheet, line), x, y),
                             at("on_sheet", sheet, x, at("on_line", line, y)))
            self.assertEqual(at("on_sheet", at("line_of_sheet", line, sheet), x, y), at("on_line", line, whole))

    def test_worked_out(self):
        language = language_of(100)
        self.assertEqual(forms.line_of_line(language, (2, 3), (5, 7)), (10, 17))
        self.assertEqual(forms.sheet_left(language, (2, 3, 5, 7), 4), (13, 19))
        self.assertEqual(forms.sheet_right(language, (2, 3, 5, 7), 4), (11, 27))
        self.assertEqual(forms.left_line(language, (2, 3, 5, 7), (4, 6)), (8, 12, 17, 25))
        self.assertEqual(forms.right_line(language, (2, 3, 5, 7), (4, 6)), (8, 15, 20, 37))
        self.assertEqual(forms.line_of_sheet(language, (4, 6), (2, 3, 5, 7)), (8, 12, 20, 34))

    def test_by_name(self):
        language = language_of(10)
        sheet = (1, 2, 3, 4)
        self.assertEqual(forms.plus(b=2, a=9, language=language), 1)
        self.assertEqual(forms.times(b=2, a=9, language=language), 8)
        self.assertEqual(forms.on_line(x=2, line=(3, 5), language=language), 1)
        self.assertEqual(forms.on_sheet(y=1, x=0, sheet=sheet, language=language), 7)
        self.assertEqual(forms.line_of_line(inner=(2, 3), outer=(4, 5), language=language), (8, 7))
        self.assertEqual(forms.sheet_left(x=1, sheet=sheet, language=language), (4, 6))
        self.assertEqual(forms.sheet_right(y=1, sheet=sheet, language=language), (3, 7))
        self.assertEqual(forms.left_line(line=(1, 0), sheet=sheet, language=language), sheet)
        self.assertEqual(forms.right_line(line=(1, 0), sheet=sheet, language=language), sheet)
        self.assertEqual(forms.line_of_sheet(sheet=sheet, line=(1, 0), language=language), sheet)

    def test_language_with_rows(self):
        language = with_reckoning(random.Random(10), E, 7)
        self.assertEqual(forms.plus(language, 6, 6), 5)
