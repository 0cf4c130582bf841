"""Worths of trees and of halves ([24], [26])."""

import random

from anyhalf.errors import BadWord, NoReading, NoWorth, TooMany
from anyhalf.halfworth import worth
from anyhalf.halves import empty_half
from anyhalf.languages import made_language
from anyhalf.pieceasks import half_of
from anyhalf.plainread import read_plain
from anyhalf.plainworth import worth_plain
from anyhalf.reckon import reckoned
from anyhalf.rolesof import roles_along
from anyhalf.signs import words_of
from anyhalf.tables import children, root_of
from tests.common import (E, Case, all_halves, bent, deep_brackets, drawn_language, good_words, half_by_middles,
                          half_from_left, half_from_right, half_in_order, split, with_reckoning)
from tests.test_pieceasks import edited_pieces
from tests.treeworths import Worths

SIZES = (0, 0, 0, 2, 3, 10, 97, 10 ** 9)


def reckoned_by_words(language, size, values, default, sheets, lines, kept):
    """A reckoning whose forms are told by words; nought where none is told."""
    forms = tuple((sheets if role == "between" else lines).get(word, (0,) * (4 if role == "between" else 2))
                  for word, role, _ in language.rows)
    return reckoned(language, size, values, default, forms, kept)


R = reckoned_by_words(E, 10, (("a", 3), ("b", 4), ("c", 5)), 0, {"+": (0, 1, 1, 0), "*": (1, 0, 0, 0)},
                      {"-": (9, 0), "!": (2, 1)}, ((1, 1),))


def table_of(language, words):
    kind, _, table = read_plain(language, words)
    assert kind == ""
    return table


def operands_in(language, words):
    return [at for at, role in enumerate(roles_along(language, words)) if role[0] == "operand"]


def height(language, words, table, i):
    """The greatest number of steps from a node down to an operand, plain brackets not counted."""
    kind, number = roles_along(language, words)[i]
    below = [child for child in children(table, i) if roles_along(language, words)[child][0] != "open"]
    if kind == "operand":
        return 0
    deepest = max(height(language, words, table, child) for child in below)
    return deepest if (kind, number) == ("close", 0) else deepest + 1


def drawn_trees(many, seed):
    draw = random.Random(seed)
    for _ in range(many):
        language = drawn_language(draw) if draw.random() < 0.6 else E
        yield draw, with_reckoning(draw, language, draw.choice(SIZES)), good_words(draw, language, draw.randint(1, 16))


class PlainWorthTest(Case):
    def test_example(self):
        for text, expected in (("a + b * c", 3), ("a", 3), ("d", 0), ("- a", 7), ("a !", 7), ("( a )", 3), ("[ a ]", 4),
                               ("[ ( a + b ) ]", 8), ("( a + b ) * c", 5), ("- a + b !", 6), ("a * d + c", 5),
                               ("( ( a ) )", 3), ("[ [ a ] ]", 5), ("not a", 0)):
            words = split(text)
            self.assertEqual(worth_plain(R, words, table_of(R, words)), expected, text)
            for half in all_halves(R, words):
                self.assertEqual(worth(R, half), expected, text)

    def test_left_and_right(self):
        language = made_language(("left",), (("-", "between", 1),), (("(", ")"), ("[", "]")))
        language = reckoned(language, 1000, (("a", 2), ("b", 3)), 7, ((0, 100, 10, 1),), ((0, 5),))
        for text, expected in (("a - b", 231), ("b - a", 321), ("x - b", 731), ("a - b - x", 171), ("( a ) - b", 231),
                               ("[ a ] - b", 531), ("a - ( b - x )", 911)):
            words = split(text)
            self.assertEqual(worth_plain(language, words, table_of(language, words)), expected, text)
            self.assertEqual(worth(language, half_from_left(language, words)), expected, text)

    def test_drawn(self):
        for _, language, words in drawn_trees(800, 121):
            table = table_of(language, words)
            self.assertEqual(worth_plain(language, words, table), Worths(language, words, table).root(), words)

    def test_no_reckoning(self):
        self.refused(NoWorth, 0, worth_plain, E, ("a",), (-1,))
        self.refused(NoWorth, 0, worth_plain, E, ("A",) * 4001, ())

    def test_wrong_words(self):
        self.refused(BadWord, 1, worth_plain, R, ("a", "A"), (-1, 0))
        self.refused(TooMany, 4001, worth_plain, R, ("",) * 4001, ())

    def test_by_name(self):
        self.assertEqual(worth_plain(table=(-1,), words=("a",), language=R), 3)

    def test_deep(self):
        rows = {deep_brackets(1999): 3, deep_brackets(1999, ("b",)): 4, ("-",) * 3999 + ("a",): 7,
                ("a",) + ("!",) * 4: 3, split("a + " * 1999 + "a"): 0, split("d + " * 1999 + "c"): 5,
                ("[",) * 1999 + ("a",) + ("]",) * 1999: 2}
        for words, expected in rows.items():
            self.assertEqual(worth_plain(R, words, table_of(R, words)), expected)
            for way in (half_from_left, half_from_right, half_by_middles):
                self.assertEqual(worth(R, way(R, words)), expected)


class HalfWorthTest(Case):
    def test_drawn_in_drawn_orders(self):
        for draw, language, words in drawn_trees(1500, 122):
            expected = worth_plain(language, words, table_of(language, words))
            half = half_in_order(draw, language, words, draw.randint(0, 3))
            self.assertEqual(worth(language, half), expected, words)

    def test_drawn_in_every_order(self):
        for draw, language, words in drawn_trees(300, 123):
            if len(words) <= 7:
                expected = worth_plain(language, words, table_of(language, words))
                for half in all_halves(language, words):
                    self.assertEqual(worth(language, half), expected, words)

    def test_longer_rows(self):
        draw = random.Random(124)
        for size in SIZES:
            language = with_reckoning(draw, E, size)
            words = good_words(draw, E, 200)
            expected = worth_plain(language, words, table_of(language, words))
            for _ in range(3):
                self.assertEqual(worth(language, half_in_order(draw, language, words)), expected)

    def test_of_pieces(self):
        draw = random.Random(125)
        many = 0
        for _ in range(60):
            language = with_reckoning(draw, E, draw.choice(SIZES))
            for piece, text in edited_pieces(draw, language, 12):
                half = half_of(language, piece)
                words = words_of(text)
                kind, number, table = read_plain(language, words)
                if kind:
                    self.refused(NoReading, (kind, number), worth, language, half)
                else:
                    many += 1
                    self.assertEqual(worth(language, half), worth_plain(language, words, table))
        self.assertGreater(many, 20)

    def test_no_reckoning(self):
        for text in ("a", "a b", "", "( a"):
            self.refused(NoWorth, 0, worth, E, half_from_left(E, split(text)))

    def test_each_kind_of_fault(self):
        for text, fault in (("", ("end", 0)), ("a +", ("end", 2)), ("a b", ("have", 1)), ("+ a", ("want", 0)),
                            ("( a", ("open", 0)), ("( ( a )", ("open", 0)), ("( a + [ b", ("open", 3)),
                            ("[ a )", ("close", 2)), ("a )", ("close", 1)), ("a < b < c", ("clash", 3)),
                            ("a ++ b", ("word", 1)), ("a ) b", ("close", 1)), ("a ) )", ("close", 1))):
            words = split(text)
            self.assertEqual(read_plain(R, words)[:2], fault)
            for half in all_halves(R, words) if words else [empty_half(R)]:
                self.refused(NoReading, fault, worth, R, half)

    def test_drawn_faults(self):
        for draw, language, words in drawn_trees(500, 126):
            words = bent(draw, language, words)
            kind, number, table = read_plain(language, words)
            half = half_in_order(draw, language, words)
            if kind:
                self.refused(NoReading, (kind, number), worth, language, half)
            else:
                self.assertEqual(worth(language, half), worth_plain(language, words, table))

    def test_beyond_a_million(self):
        most = 10 ** 6
        forms = tuple((most,) * (4 if role == "between" else 2) for _, role, _ in E.rows)
        language = reckoned(E, 0, (("a", most), ("b", -most)), -most, forms, ((most, -most),))
        for text, expected in (("a + a", 3 * most), ("- a", 2 * most), ("b * b", most), ("- - - a", 4 * most),
                               ("a + a + a", 5 * most), ("[ - a ]", 3 * most)):
            words = split(text)
            self.assertEqual(worth_plain(language, words, table_of(language, words)), expected, text)
            self.assertEqual(worth(language, half_from_right(language, words)), expected, text)
        words = ("-",) * 3999 + ("a",)
        self.assertEqual(worth(language, half_by_middles(language, words)), 4000 * most)

    def test_none_is_a_worth(self):
        language = with_reckoning(random.Random(1), made_language(("left",), (), (("(", ")"),)), 0)
        language = reckoned(language, 0, (("b", 4),), None, (), ())
        for text, expected in (("a", None), ("b", 4), ("( a )", None), ("( b )", 4)):
            self.assertEqual(worth_plain(language, split(text), table_of(language, split(text))), expected)
            self.assertEqual(worth(language, half_from_left(language, split(text))), expected)

    def test_by_name(self):
        self.assertEqual(worth(half=half_from_left(R, ("a",)), language=R), 3)


class TwoReckoningsTest(Case):
    def counting(self, language):
        return reckoned_all(language, 10 ** 9, 1, (0, 1, 1, 0), (1, 0))

    def heights(self, language):
        return reckoned_all(language, 0, 0, (None, 1, 1, None), (1, None))

    def test_examples(self):
        for text, operands, steps in (("a", 1, 0), ("a + b * c", 3, 2), ("( ( a ) )", 1, 0), ("[ a ]", 1, 1),
                                      ("- ( a + b ) * [ c ! ]", 3, 3), ("not not a", 1, 2)):
            for language, expected in ((self.counting(E), operands), (self.heights(E), steps)):
                words = split(text)
                self.assertEqual(worth_plain(language, words, table_of(language, words)), expected, text)
                self.assertEqual(worth(language, half_from_left(language, words)), expected, text)

    def test_drawn(self):
        for draw, language, words in drawn_trees(400, 127):
            table = table_of(language, words)
            half = half_in_order(draw, self.counting(language), words)
            self.assertEqual(worth(self.counting(language), half), len(operands_in(language, words)))
            self.assertEqual(worth_plain(self.counting(language), words, table), len(operands_in(language, words)))
            half = half_in_order(draw, self.heights(language), words)
            steps = height(language, words, table, root_of(table))
            self.assertEqual(worth(self.heights(language), half), steps)
            self.assertEqual(worth_plain(self.heights(language), words, table), steps)

    def test_long(self):
        words = split("a + " * 1999 + "a")
        self.assertEqual(worth(self.counting(E), half_by_middles(self.counting(E), words)), 2000)
        self.assertEqual(worth(self.heights(E), half_by_middles(self.heights(E), words)), 1999)
        words = deep_brackets(1999)
        self.assertEqual(worth(self.heights(E), half_by_middles(self.heights(E), words)), 0)


def reckoned_all(language, size, default, sheet, line):
    """The same sheet for all between words, the same line for all others and for kept brackets."""
    forms = tuple(sheet if role == "between" else line for _, role, _ in language.rows)
    return reckoned(language, size, (), default, forms, (line,) * (len(language.pairs) - 1))
