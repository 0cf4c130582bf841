"""Trees put in the place of nodes ([32], [9], [29])."""

import random

from anyhalf.errors import BadSaid, BadWord, NoReading, NoSuch, TooMany
from anyhalf.grafts import grafted
from anyhalf.plainread import read_plain
from anyhalf.printed import printed
from anyhalf.rolesof import roles_along
from anyhalf.saidreads import said_at
from anyhalf.tables import children, root_of, span
from tests.common import E, Case, drawn_language, drawn_row, good_words, split
from tests.test_needless import FAULTY, bracketed
from tests.test_saidrows import ODD
from tests.wordingmodel import is_read_as, row_in

LONG_ROW = (("between", "+"),) * 199 + (("operand", "a"),) * 200
SUM = row_in("x + y")


def said_with(language, words, table, at, i, row):
    """The said row of what stands at a word, with this row in the place of word i."""
    if at == i:
        return row
    kind, number = roles_along(language, words)[at]
    if kind == "close":
        content = said_with(language, words, table, children(table, at)[1], i, row)
        return content if number == 0 else (("kept", language.pairs[number][0]),) + content
    found = ((kind, words[at]),)
    for child in children(table, at):
        found += said_with(language, words, table, child, i, row)
    return found


def grafted_by_hand(language, words, i, row):
    """Both ways are tried."""
    table = read_plain(language, words)[2]
    aim = said_with(language, words, table, root_of(table), i, row)
    first, last = span(table, i)
    new = printed(language, row)
    bare = words[:first] + new + words[last + 1:]
    plain = language.pairs[0]
    paired = words[:first] + (plain[0],) + new + (plain[1],) + words[last + 1:]
    assert is_read_as(language, paired, aim)
    return bare if is_read_as(language, bare, aim) else paired


class GraftedTest(Case):
    def grafts(self, text, i, row, words):
        self.assertEqual(grafted(E, split(text), i, row), split(words))

    def test_operands(self):
        self.grafts("a * b", 0, SUM, "( x + y ) * b")
        self.grafts("a * b", 2, SUM, "a * ( x + y )")
        self.grafts("a + b", 0, SUM, "x + y + b")
        self.grafts("a + b", 2, SUM, "a + ( x + y )")
        self.grafts("not a", 1, SUM, "not x + y")
        self.grafts("a", 0, SUM, "x + y")
        self.grafts("( a ) * b", 1, SUM, "( x + y ) * b")

    def test_closing_words(self):
        self.grafts("( a + b ) * c", 4, row_in("x ^ y"), "x ^ y * c")
        self.grafts("( a + b ) * c", 4, SUM, "( x + y ) * c")
        self.grafts("( a + b ) * c", 2, SUM, "( x + y ) * c")
        self.grafts("( a + b ) * c", 2, row_in("x ^ y"), "( x ^ y ) * c")
        self.grafts("[ a + b ] * c", 4, SUM, "( x + y ) * c")
        self.grafts("[ a + b ] * c", 2, SUM, "[ x + y ] * c")
        self.grafts("( ( a ) ) * c", 4, SUM, "( x + y ) * c")
        self.grafts("( ( a ) ) * c", 3, SUM, "( x + y ) * c")

    def test_the_root(self):
        for text, root in (("a + b", 1), ("( a + b )", 4), ("[ a ]", 2), ("not a", 0), ("a !", 1)):
            self.grafts(text, root, SUM, "x + y")
        self.grafts("( a + b )", 2, SUM, "( x + y )")

    def test_a_neighbour_far_off(self):
        self.grafts("a * - b + c", 3, row_in("not x"), "a * - ( not x ) + c")
        self.grafts("a * - b", 3, row_in("not x"), "a * - not x")
        self.grafts("a < b + c", 4, row_in("x < y"), "a < b + ( x < y )")

    def test_the_new_tree_is_printed_alone(self):
        self.grafts("a ^ b", 0, row_in("( x ^ y ) ^ z"), "( ( x ^ y ) ^ z ) ^ b")
        self.grafts("a ^ b", 2, row_in("( x ^ y ) ^ z"), "a ^ ( x ^ y ) ^ z")
        self.grafts("a * b", 2, row_in("[ x + y ]"), "a * [ x + y ]")
        self.grafts("a * b", 2, (("operand", "q"),), "a * q")

    def test_drawn_words_and_rows(self):
        draw = random.Random(241)
        pairs = 0
        many = 0
        for _ in range(250):
            language = drawn_language(draw)
            words = bracketed(draw, language, good_words(draw, language, draw.randint(1, 14)))
            table = read_plain(language, words)[2]
            roles = roles_along(language, words)
            for i in range(-1, len(words) + 1):
                row = drawn_row(draw, language, draw.randint(1, 8))
                if i in (-1, len(words)) or roles[i][0] == "open":
                    self.refused(NoSuch, i, grafted, language, words, i, row)
                    continue
                found = grafted(language, words, i, row)
                self.assertEqual(found, grafted_by_hand(language, words, i, row), (words, i, row))
                stretch = span(table, i)[1] - span(table, i)[0] + 1
                pairs += len(found) - len(printed(language, row)) != len(words) - stretch
                many += 1
        self.assertGreater(many, 1500)
        self.assertTrue(many // 20 < pairs < many // 2, (many, pairs))

    def test_the_same_part_again(self):
        draw = random.Random(242)
        for _ in range(60):
            language = drawn_language(draw)
            words = good_words(draw, language, 10)
            table = read_plain(language, words)[2]
            for i, role in enumerate(roles_along(language, words)):
                if role[0] != "open":
                    part = said_at(language, words, table, i)
                    found = grafted(language, words, i, part)
                    self.assertTrue(is_read_as(language, found, said_at(language, words, table, root_of(table))))

    def test_errors_one_by_one(self):
        words = split("( a + b ) * c")
        for text, fault in FAULTY.items():
            self.refused(NoReading, fault, grafted, E, split(text), 0, SUM)
        for i in (0, 7, -1, -7, 10 ** 30):
            self.refused(NoSuch, i, grafted, E, words, i, SUM)
        self.refused(TooMany, 401, grafted, E, words, 1, LONG_ROW + SUM[:2])
        self.refused(BadSaid, 0, grafted, E, words, 1, ())
        self.refused(BadSaid, 3, grafted, E, words, 1, SUM + SUM)
        for odd in ODD:
            self.refused(BadSaid, 1, grafted, E, words, 1, SUM[:1] + (odd,))
        self.refused(BadWord, 3, grafted, E, ("a", "+", "b", "A"), 0, SUM)
        self.refused(TooMany, 4001, grafted, E, ("a",) * 4001, 0, SUM)

    def test_order_of_errors(self):
        self.refused(TooMany, 4001, grafted, E, ("a b",) * 4001, -1, ())
        self.refused(BadWord, 1, grafted, E, (")", "a b"), -1, ())
        self.refused(NoReading, ("want", 0), grafted, E, (")", "a"), -1, ())
        self.refused(NoReading, ("end", 0), grafted, E, (), 0, ())
        self.refused(NoSuch, -1, grafted, E, ("a",), -1, ())
        self.refused(NoSuch, 0, grafted, E, split("( a )"), 0, (None,) * 401)
        long = split("a + " * 1999 + "a")
        self.refused(NoSuch, 3999, grafted, E, long, 3999, LONG_ROW)
        self.refused(BadSaid, 398, grafted, E, long, 0, LONG_ROW[:-1])
        self.refused(TooMany, 798, grafted, E, long, 0, LONG_ROW + LONG_ROW)

    def test_too_many_words(self):
        long = split("a + " * 1799 + "a + b")
        self.assertEqual(len(long), 3601)
        self.assertEqual(len(grafted(E, long, 0, LONG_ROW)), 3999)
        # 4000 words without a pair; but behind + the sum needs one.
        long = split("not " + "a + " * 1799 + "a + b")
        self.assertEqual(len(grafted(E, long, 1, LONG_ROW)), 4000)
        self.refused(TooMany, 4002, grafted, E, long, 3, LONG_ROW)
        long = split("a + " * 1800 + "a + b")
        self.refused(TooMany, 4001, grafted, E, long, 0, LONG_ROW)
        self.refused(TooMany, 4001, grafted, E, long, 2, LONG_ROW)
        self.assertEqual(len(grafted(E, long, 3601, (("operand", "a"),))), 1)

    def test_full_with_a_pair(self):
        long = split("a ^ " * 1798 + "a ^ b")
        self.assertEqual(len(long), 3599)
        found = grafted(E, long, 0, LONG_ROW)
        self.assertEqual(len(found), 3999)
        self.assertEqual((found[0], found[400]), ("(", ")"))
        long = ("not",) + long
        self.assertEqual(len(grafted(E, long, 1, LONG_ROW)), 4000)
        self.refused(TooMany, 4001, grafted, E, ("not",) + long, 2, LONG_ROW)

    def test_by_name(self):
        self.assertEqual(grafted(row=SUM, i=0, words=("a",), language=E), split("x + y"))
