"""Worths as lines of one operand's worth and as sheets of two ([25])."""

import random

from anyhalf.errors import BadWord, NoSuch, NoWorth, TooMany
from anyhalf.forms import on_line, on_sheet, sheet_left, sheet_right
from anyhalf.plainworth import worth_plain
from anyhalf.rolesof import roles_along
from anyhalf.slopes import sheet_of, slope
from tests.common import E, Case, deep_brackets, drawn_number, split
from tests.test_worths import R, drawn_trees, operands_in, table_of
from tests.treeworths import Formulas, Worths, nought, one

ODD = (True, False, None, "0", 0.0, (), -1, -10 ** 30, 10 ** 30)


class SlopesTest(Case):
    def slope_in(self, language, text, i):
        words = split(text)
        return slope(language, words, table_of(language, words), i)

    def sheet_in(self, language, text, i, j):
        words = split(text)
        return sheet_of(language, words, table_of(language, words), i, j)

    def test_example(self):
        self.assertEqual(self.slope_in(R, "a + b * c", 2), (5, 3))
        self.assertEqual(self.sheet_in(R, "a + b * c", 2, 4), (1, 0, 0, 3))

    def test_worked_out(self):
        for text, i, expected in (("a", 0, (1, 0)), ("a + b * c", 0, (1, 0)), ("a + b * c", 4, (4, 3)),
                                  ("( a )", 1, (1, 0)), ("[ a ]", 1, (1, 1)), ("- a", 1, (9, 0)), ("a !", 0, (2, 1)),
                                  ("[ - a ] * b", 2, (6, 4)), ("d * ( a + b )", 5, (0, 0)), ("not a", 1, (0, 0))):
            self.assertEqual(self.slope_in(R, text, i), expected, text)
        for text, i, j, expected in (("a + b * c", 0, 2, (0, 1, 5, 0)), ("a + b * c", 2, 0, (0, 5, 1, 0)),
                                     ("a + b * c", 4, 2, (1, 0, 0, 3)), ("a + b * c", 4, 0, (0, 4, 1, 0)),
                                     ("[ a * - b ] + c", 1, 4, (9, 0, 0, 6)), ("a * b !", 0, 2, (2, 1, 0, 0)),
                                     ("a * b !", 2, 0, (2, 0, 1, 0))):
            self.assertEqual(self.sheet_in(R, text, i, j), expected, (text, i, j))

    def test_whatever_the_own_worth_is(self):
        for name in "abcd":
            self.assertEqual(self.slope_in(R, "a + " + name + " * c", 2), (5, 3))
            self.assertEqual(self.sheet_in(R, "a + " + name + " * c", 2, 4), (1, 0, 0, 3))

    def test_slopes_of_all_operands(self):
        for draw, language, words in drawn_trees(400, 131):
            table = table_of(language, words)
            size = language.reckoning[0]
            for i in operands_in(language, words):
                line = slope(language, words, table, i)
                self.assertIs(type(line), tuple)
                formula = Formulas(language, words, table, {i: {"x": one(size)}}).root()
                self.assertEqual(line, (formula.get("x", nought(size)), formula.get("", nought(size))))
                own = Worths(language, words, table).node(i)
                self.assertEqual(on_line(language, line, own), worth_plain(language, words, table))
                for _ in range(3):
                    x = drawn_number(draw, size)
                    self.assertEqual(on_line(language, line, x), Worths(language, words, table, {i: x}).root())

    def test_sheets_of_all_twos(self):
        for draw, language, words in drawn_trees(200, 132):
            table = table_of(language, words)
            size = language.reckoning[0]
            operands = operands_in(language, words)
            for i, j in [(i, j) for i in operands for j in operands if i != j]:
                sheet = sheet_of(language, words, table, i, j)
                self.assertIs(type(sheet), tuple)
                formula = Formulas(language, words, table, {i: {"x": one(size)}, j: {"y": one(size)}}).root()
                expected = tuple(formula.get(key, nought(size)) for key in ("xy", "x", "y", ""))
                self.assertEqual(sheet, expected, (words, i, j))
                for _ in range(2):
                    x, y = drawn_number(draw, size), drawn_number(draw, size)
                    told = Worths(language, words, table, {i: x, j: y}).root()
                    self.assertEqual(on_sheet(language, sheet, x, y), told)

    def test_sheets_and_slopes(self):
        for _, language, words in drawn_trees(150, 133):
            table = table_of(language, words)
            operands = operands_in(language, words)
            own = Worths(language, words, table)
            for i, j in zip(operands, operands[1:]):
                sheet = sheet_of(language, words, table, i, j)
                p, q, r, s = sheet
                self.assertEqual(sheet_of(language, words, table, j, i), (p, r, q, s))
                self.assertEqual(sheet_right(language, sheet, own.node(j)), slope(language, words, table, i))
                self.assertEqual(sheet_left(language, sheet, own.node(i)), slope(language, words, table, j))

    def test_no_reckoning(self):
        self.refused(NoWorth, 0, slope, E, ("A",) * 4001, (), -1)
        self.refused(NoWorth, 0, slope, E, ("a",), (-1,), 0)
        self.refused(NoWorth, 0, sheet_of, E, ("A",) * 4001, (), -1, -1)
        self.refused(NoWorth, 0, sheet_of, E, split("a + b"), (1, -1, 1), 0, 2)

    def test_wrong_words(self):
        for call, numbers in ((slope, (-1,)), (sheet_of, (-1, -1))):
            self.refused(TooMany, 4001, call, R, ("A",) * 4001, (-1,), *numbers)
            self.refused(BadWord, 2, call, R, ("a", "+", "A"), (1, -1, 1), *numbers)

    def test_no_such_operand(self):
        words = split("- ( a + b ) !")
        table = table_of(R, words)
        for i in (0, 1, 3, 5, 6, 7, 8) + ODD:
            self.refused(NoSuch, i, slope, R, words, table, i)
            self.refused(NoSuch, i, sheet_of, R, words, table, i, 2)
            self.refused(NoSuch, i, sheet_of, R, words, table, i, i)
            self.refused(NoSuch, i, sheet_of, R, words, table, 2, i)
            self.refused(NoSuch, i, sheet_of, R, words, table, i, 99)
        self.refused(NoSuch, 0, slope, R, (), (), 0)
        self.refused(NoSuch, -1, slope, R, split("a + b"), (1, -1, 1), -1)
        self.refused(NoSuch, -1, sheet_of, R, split("a + b"), (1, -1, 1), 0, -1)
        for i in (2, 4):
            slope(R, words, table, i)
            self.refused(NoSuch, i, sheet_of, R, words, table, i, i)

    def test_by_name(self):
        words = split("a + b")
        self.assertEqual(slope(i=0, table=(1, -1, 1), words=words, language=R), (1, 4))
        self.assertEqual(sheet_of(j=2, i=0, table=(1, -1, 1), words=words, language=R), (0, 1, 1, 0))

    def test_deep(self):
        for words, i, expected in ((deep_brackets(1999), 1999, (1, 0)), (("-",) * 3999 + ("a",), 3999, (9, 0)),
                                   (split("a + " * 1999 + "a"), 0, (1, 7)), (split("a + " * 1999 + "a"), 3998, (1, 7)),
                                   (("[",) * 1999 + ("a",) + ("]",) * 1999, 1999, (1, 9))):
            table = table_of(R, words)
            self.assertEqual(roles_along(R, words)[i][0], "operand")
            self.assertEqual(slope(R, words, table, i), expected)
        words = split("a + " * 1999 + "a")
        table = table_of(R, words)
        self.assertEqual(sheet_of(R, words, table, 0, 3998), (0, 1, 1, 4))
        self.assertEqual(sheet_of(R, words, table, 2000, 0), (0, 1, 1, 4))
        words = deep_brackets(1998, split("a * b"))
        self.assertEqual(sheet_of(R, words, table_of(R, words), 2000, 1998), (1, 0, 0, 0))
