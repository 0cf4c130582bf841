import random
from itertools import product

from anyhalf.bonds import bond
from anyhalf.errors import BadWord, TooMany
from anyhalf.judge import form_right, table_right
from anyhalf.languages import made_language
from anyhalf.plainread import read_plain
from tests.common import E, Case, deep_brackets, drawn_language, drawn_words, split
from tests.test_plainread import BAD, GOOD


def odd_things(table):
    """Values of other forms than tables, made from one."""
    things = [None, True, False, 0, -1, "", "table", (), (table,), tuple(str(n) for n in table), table + (-1,),
              table[:-1], table + (0,), (table, table), ((),) * len(table), (None,) * len(table)]
    deep = table
    for _ in range(49):
        deep = (deep,)
    things.append(deep)
    for at in range(len(table)):
        for odd in (None, True, False, "", "0", (), (table[at],), len(table), -2, 10 ** 100, -10 ** 100):
            if odd != table[at] or isinstance(odd, bool):
                things.append(table[:at] + (odd,) + table[at + 1:])
    return things


class JudgeTest(Case):
    def judged(self, language, words, table, form, right):
        self.assertIs(form_right(language, words, table), form)
        self.assertIs(table_right(language, words, table), right)

    def test_examples(self):
        for text, table in GOOD.items():
            self.judged(E, split(text), table, True, True)

    def test_rows_with_a_fault_have_no_right_table(self):
        for text in BAD:
            words = split(text)
            for table in product(range(-1, len(words)), repeat=min(len(words), 4)):
                self.assertIs(table_right(E, words, table), False)
        self.judged(E, (), (), False, False)
        self.judged(E, (), (-1,), False, False)

    def test_only_one_table_is_right(self):
        for text in ("a", "- a", "a !", "[ a ]", "a + b", "- a !", "- - a", "( - a )", "a * - b", "a + b * c",
                     "a ^ b ^ c", "a < b + c", "[ [ a ] ]", "a + b !"):
            words = split(text)
            right = [table for table in product(range(-1, len(words)), repeat=len(words))
                     if table_right(E, words, table)]
            self.assertEqual(right, [read_plain(E, words)[2]], text)

    def test_six_words(self):
        words = split("- a + b * c")
        right = []
        formed = 0
        for table in product(range(-1, 6), repeat=6):
            if form_right(E, words, table):
                formed += 1
                if table_right(E, words, table):
                    right.append(table)
        self.assertEqual(right, [read_plain(E, words)[2]])
        self.assertEqual(formed, 5)

    def test_drawn_words_all_tables(self):
        draw = random.Random(5)
        faults = 0
        for _ in range(150):
            language = drawn_language(draw)
            words = drawn_words(draw, language, draw.randint(1, 4))
            kind, _, table = read_plain(language, words)
            right = [each for each in product(range(-1, len(words)), repeat=len(words))
                     if table_right(language, words, each)]
            self.assertEqual(right, [table] if kind == "" else [])
            faults += kind != ""
        self.assertGreater(faults, 20)
        self.assertLess(faults, 130)

    def test_drawn_longer_words(self):
        draw = random.Random(6)
        for _ in range(400):
            language = drawn_language(draw)
            words = drawn_words(draw, language, draw.randint(1, 12))
            kind, _, table = read_plain(language, words)
            if kind != "":
                continue
            self.judged(language, words, table, True, True)
            for at in range(len(table)):
                other = table[:at] + (draw.randint(-1, len(table) - 1),) + table[at + 1:]
                self.assertIs(table_right(language, words, other), other == table)
                after = draw.randrange(len(table))
                swapped = list(table)
                swapped[at], swapped[after] = swapped[after], swapped[at]
                self.assertIs(table_right(language, words, tuple(swapped)), tuple(swapped) == table)

    def test_form_without_right(self):
        self.judged(E, split("a + b * c"), (1, 3, 1, -1, 3), True, False)
        self.judged(E, split("a + b + c"), (1, -1, 3, 1, 3), True, False)
        self.judged(E, split("- a * b"), (-1, 2, 0, 2), True, False)
        self.judged(E, split("a < b < c"), (1, 3, 1, -1, 3), True, False)
        self.judged(E, split("a < b < c"), (1, -1, 3, 1, 3), True, False)
        self.judged(E, split("a ^ b !"), (1, 3, 1, -1), True, False)
        self.judged(E, split("a * not b + c"), (1, 4, 1, 2, -1, 4), True, False)
        self.judged(E, split("not a + b * c"), (2, 0, -1, 4, 2, 4), True, False)

    def test_far_pairs_are_met(self):
        # Each next pair of words fits, but not the outer ones: not and + do meet.
        words = split("a * not b + c")
        self.assertIs(table_right(E, words, (1, 4, 1, 2, -1, 4)), False)
        language = made_language(("left", "left", "left"), (("f", "ahead", 1), ("*", "between", 3), ("+", "between", 2)),
                                 (("(", ")"),))
        self.assertEqual(bond(language, 0, 2), 0)
        self.judged(language, split("a * f b + c"), (1, 4, 1, 2, -1, 4), True, False)
        self.judged(language, split("a * f b + c"), (1, -1, 1, 4, 2, 4), True, True)

    def test_brackets_without_their_form(self):
        words = split("( a )")
        for table in product(range(-1, 3), repeat=3):
            self.judged(E, words, table, table == (2, 2, -1), table == (2, 2, -1))
        words = split("( a ) + b")
        right = (2, 2, 3, -1, 3)
        for table in product(range(-1, 5), repeat=5):
            self.assertIs(form_right(E, words, table), table == right)
        self.judged(E, split("[ a )"), (2, 2, -1), False, False)
        self.judged(E, split("( ( a ) )"), (3, 4, 3, 4, -1), False, False)

    def test_rings_roots_and_gaps(self):
        words = split("a + b * c")
        for table in ((1, 3, 3, 1, 3), (1, 1, 3, 1, 3), (1, -1, 3, -1, 3), (-1, -1, -1, -1, -1), (1, 2, 3, 4, 0),
                      (3, -1, 1, 1, 3), (1, -1, 3, 1, 1), (-1, 0, 3, 1, 3), (3, -1, 3, 1, 1)):
            self.judged(E, words, table, False, False)

    def test_odd_things(self):
        for text in ("a + b * c", "- a", "( a )", "a"):
            words = split(text)
            table = read_plain(E, words)[2]
            for odd in odd_things(table):
                self.assertIs(table_right(E, words, odd), False, odd)
                self.assertIs(form_right(E, words, odd), odd == (1, 3, 1, -1, 3), odd)
        for odd in odd_things((-1,)):
            self.judged(E, (), odd, False, False)
            self.judged(E, ("(",), odd, False, False)
        self.judged(E, ("a",), ((-1,) * 10000), False, False)

    def test_truth_values_are_no_numbers(self):
        self.judged(E, split("- a"), (-1, 0), True, True)
        self.judged(E, split("- a"), (-1, False), False, False)
        self.judged(E, split("a !"), (1, -1), True, True)
        self.judged(E, split("a !"), (True, -1), False, False)

    def test_errors_of_words(self):
        for judge in (form_right, table_right):
            for table in (None, (), (1, -1, 1)):
                self.refused(BadWord, 1, judge, E, ("a", "a+", None), table)
                self.refused(TooMany, 4001, judge, E, ("",) * 4001, table)
            self.assertIs(judge(E, (")",) * 4000, (-1,) * 4000), False)

    def test_deep(self):
        for words in (deep_brackets(1999), ("-",) * 3999 + ("a",), split("a ^ " * 1999 + "a"),
                      split("a + " * 1999 + "a"), ("a",) + ("!",) * 3999, deep_brackets(1332, split("- a + b"))):
            table = read_plain(E, words)[2]
            self.judged(E, words, table, True, True)
            self.judged(E, words, table[:-1] + (0,), False, False)
            self.judged(E, words, tuple(range(1, len(words))) + (0,), False, False)

    def test_by_name(self):
        self.assertIs(form_right(table=(-1,), words=("a",), language=E), True)
        self.assertIs(table_right(table=(-1,), words=("a",), language=E), True)
