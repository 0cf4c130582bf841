"""Lessons and what they demand ([33], [7], [3])."""

import random

from anyhalf.demands import demands, made_roles
from anyhalf.errors import BadLesson, BadPair, BadRow, TooMany
from anyhalf.judge import form_right, table_right
from anyhalf.languages import Language, made_language
from anyhalf.plainread import read_plain
from tests.common import E, E_PAIRS, Case, drawn_language, split
from tests.lessonmodel import (demands_by_hand, free_lesson, holds, other_levels, read_lesson, roles_rows)
from tests.test_judge import odd_things

ROWS = (("+", "between"), ("*", "between"))
PAIRS = (("(", ")"), ("[", "]"))
E_ROLES = roles_rows(E)
ONE = (split("a + b * c"), (1, -1, 3, 1, 3))
OTHER = (split("a + b * c"), (1, 3, 1, -1, 3))
ODD_VALUES = (None, True, False, 0, 1, -1, "", "a", (), ((),), ((), ()), ("a",), ("a", -1), ("a", (-1,)), (("a",),),
              (("a",), (-1,), ()), (("a",), None), (("a",), -1), (None, (-1,)), ((None,), (-1,)), ((1,), (-1,)),
              ((True,), (-1,)), (("",), (-1,)), (("a b",), (-1,)), (("A",), (-1,)), ((("a",),), (-1,)),
              ((), ()), ((), (-1,)), (("a",), (0,)), (("a",), (False,)), (("a",), ()), (("a", "a"), (-1, 0)))


class RolesTest(Case):
    def test_language(self):
        language = made_roles(ROWS, PAIRS)
        self.assertIs(type(language), Language)
        self.assertEqual(language, made_language(("left",), (("+", "between", 1), ("*", "between", 1)), PAIRS))
        self.assertIsNone(language.reckoning)
        self.assertEqual(made_roles((), PAIRS[:1]), made_language(("left",), (), PAIRS[:1]))
        self.assertEqual(made_roles(pairs=E_PAIRS, rows=E_ROLES).rows, tuple(row + (1,) for row in E_ROLES))

    def test_rows_that_are_none(self):
        for call in (made_roles, lambda rows, pairs: demands(rows, pairs, None)):
            for odd in (None, True, 0, "", "+-", (), ("+",), ("+", "between", 1), ("+", "left"), ("+", None), ("+", 1),
                        (None, "between"), (1, "ahead"), ("", "ahead"), ("a b", "ahead"), ("(", "ahead"), ("+a", "ahead"),
                        ("abcdefghijklm", "ahead"), ("+" * 13, "behind"), (("+",), "ahead"), ("+", ("ahead",)),
                        ("between", "+"), ("!", "between"), ("!", "behind"), ("not", "ahead")):
                self.refused(BadRow, 2, call, (("not", "ahead"), ("!", "behind"), odd), PAIRS)
                self.refused(BadRow, 2, call, (("not", "ahead"), ("!", "behind"), odd, None), ())

    def test_errors_in_order(self):
        many = tuple(("w" + sign, "ahead") for sign in "abcdefghijklmnopqrstuvwxy")
        for call in (made_roles, lambda rows, pairs: demands(rows, pairs, None)):
            self.refused(TooMany, 25, call, many, ())
            self.refused(TooMany, 25, call, (None,) * 25, ())
            self.refused(BadRow, 23, call, many[:23] + (None,), ())
            self.refused(TooMany, 0, call, many[:24], ())
            self.refused(TooMany, 4, call, many[:24], (None,) * 4)
            self.refused(BadPair, 1, call, many[:24], (("(", ")"), ("[", ")"), None))
        self.assertEqual(len(made_roles(many[:24], PAIRS).rows), 24)

    def test_a_word_with_two_roles(self):
        rows = (("-", "ahead"), ("-", "behind"))
        self.assertEqual(made_roles(rows, PAIRS).rows, (("-", "ahead", 1), ("-", "behind", 1)))
        self.refused(BadRow, 2, made_roles, rows + (("-", "between"),), PAIRS)
        self.refused(BadRow, 2, made_roles, rows + (("-", "ahead"),), PAIRS)


class DemandsTest(Case):
    def test_examples(self):
        self.assertEqual(demands(ROWS, PAIRS, ONE), ((0, 1, 0),))
        self.assertEqual(demands(ROWS, PAIRS, OTHER), ((0, 1, 1),))

    def demanded(self, text, found):
        words = split(text)
        table = read_plain(E, words)[2]
        self.assertEqual(demands(E_ROLES, E_PAIRS, (words, table)), found)

    def test_tables_of_small_texts(self):
        # not 0, < 1, + 2, - 3, * 4, - ahead 5, ^ 6, ! 7
        self.demanded("a", ())
        self.demanded("a + b", ())
        self.demanded("not a", ())
        self.demanded("a + b * c", ((2, 4, 0),))
        self.demanded("a * b + c", ((4, 2, 1),))
        self.demanded("a + b + c", ((2, 2, 1),))
        self.demanded("a ^ b ^ c", ((6, 6, 0),))
        self.demanded("- a * b", ((5, 4, 1),))
        self.demanded("- a ^ b", ((5, 6, 0),))
        self.demanded("not a !", ((0, 7, 0),))
        self.demanded("a * b + c * d", ((2, 4, 0), (4, 2, 1)))
        self.demanded("a + b ^ c !", ((2, 6, 0), (6, 7, 0)))
        self.demanded("a + b ^ c * a", ((2, 4, 0), (2, 6, 0), (6, 4, 1)))
        self.demanded("a * not b + c", ((0, 2, 0),))
        self.demanded("a * ( not b ) + c", ((4, 2, 1),))
        self.demanded("a * ( b + c )", ())
        self.demanded("[ a + b * c ] * ( a + b + c )", ((2, 2, 1), (2, 4, 0)))
        self.demanded("a < b ^ - c", ((1, 6, 0),))
        self.demanded("a ! !", ())
        self.demanded("- - a", ())
        self.demanded("- - a * b", ((5, 4, 1),))

    def test_a_pair_met_far_off(self):
        # + takes a * not b: both * and not wait behind each other, so both are met with it.
        words = split("a * not b + c")
        self.assertEqual(demands(E_ROLES, E_PAIRS, (words, (1, 4, 1, 2, -1, 4))), ((0, 2, 1), (4, 2, 1)))
        words = split("not a + b !")
        self.assertEqual(demands(E_ROLES, E_PAIRS, (words, (-1, 2, 4, 2, 0))), ((0, 2, 0), (0, 7, 0), (2, 7, 1)))

    def test_one_demand_of_both_kinds(self):
        words = split("a + b + c + d")
        self.assertEqual(demands(E_ROLES, E_PAIRS, (words, (1, 3, 1, -1, 5, 3, 5))), ((2, 2, 0), (2, 2, 1)))

    def test_drawn_lessons(self):
        draw = random.Random(251)
        many = 0
        for _ in range(1000):
            language = drawn_language(draw)
            lesson = free_lesson(draw, language, draw.randint(1, 25))
            found = demands(roles_rows(language), language.pairs, lesson)
            self.assertEqual(found, demands_by_hand(language, lesson))
            many += len(found)
            read = read_lesson(draw, language, draw.randint(1, 25))
            self.assertEqual(demands(roles_rows(language), language.pairs, read), demands_by_hand(language, read))
        self.assertGreater(many, 600)

    def test_languages_read_a_lesson_exactly_if_its_demands_are_their_bonds(self):
        draw = random.Random(252)
        seen = {True: 0, False: 0}
        for _ in range(400):
            language = drawn_language(draw)
            words, table = draw.choice((free_lesson, read_lesson))(draw, language, draw.randint(1, 15))
            found = demands(roles_rows(language), language.pairs, (words, table))
            for _ in range(4):
                other = other_levels(draw, language)
                reads = read_plain(other, words) == ("", -1, table)
                self.assertEqual(reads, holds(other, found))
                self.assertEqual(reads, table_right(other, words, table))
                seen[reads] += bool(found)
        self.assertTrue(min(seen.values()) > 100, seen)

    def test_lengths_of_lessons(self):
        for many in (1, 2, 199, 200):
            words = ("-",) * (many - 1) + ("a",)
            table = tuple(range(-1, many - 1))
            self.assertEqual(demands(E_ROLES, E_PAIRS, (words, table)), ())
        words = ("-",) * 200 + ("a",)
        self.assertTrue(form_right(E, words, tuple(range(-1, 200))))
        self.refused(BadLesson, 0, demands, E_ROLES, E_PAIRS, (words, tuple(range(-1, 200))))
        self.refused(BadLesson, 0, demands, E_ROLES, E_PAIRS, ((), ()))
        words = split("a + " * 99 + "b !")
        self.assertEqual(demands(E_ROLES, E_PAIRS, (words, read_plain(E, words)[2])), ((2, 2, 1), (2, 7, 0)))

    def test_tables_without_the_form(self):
        draw = random.Random(253)
        for text in ("a + b * c", "- a", "( a )", "a !", "a", "[ a + b ] !"):
            words = split(text)
            table = read_plain(E, words)[2]
            for odd in odd_things(table):
                if not form_right(E, words, odd):
                    self.refused(BadLesson, 0, demands, E_ROLES, E_PAIRS, (words, odd))
        for _ in range(300):
            language = drawn_language(draw)
            words, table = free_lesson(draw, language, 8)
            table = tuple(draw.choice((up, draw.randint(-1, len(words) - 1))) for up in table)
            if form_right(language, words, table):
                demands(roles_rows(language), language.pairs, (words, table))
            else:
                self.refused(BadLesson, 0, demands, roles_rows(language), language.pairs, (words, table))

    def test_words_with_a_fault(self):
        for text, table in (("a b", (-1, 0)), ("a +", (1, -1)), ("a $$", (-1, 0)), ("( a ]", (2, 2, -1)),
                            ("not", (-1,)), ("abcdefghijklm", (-1,))):
            self.refused(BadLesson, 0, demands, E_ROLES, E_PAIRS, (split(text), table))

    def test_values_of_other_kinds(self):
        deep = ()
        for _ in range(49):
            deep = (deep,)
        for odd in ODD_VALUES + (deep, (deep, deep), (("a",), deep), (deep, (-1,))):
            self.refused(BadLesson, 0, demands, E_ROLES, E_PAIRS, odd)

    def test_by_name(self):
        self.assertEqual(demands(lesson=ONE, pairs=PAIRS, rows=ROWS), ((0, 1, 0),))
