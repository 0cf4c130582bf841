"""The fewest plain brackets of said rows ([27], [28])."""

import random

from anyhalf.errors import BadSaid, TooMany
from anyhalf.languages import made_language
from anyhalf.least import brackets_least
from tests.common import E, Case, drawn_language, drawn_row
from tests.test_saidrows import ODD, ROW
from tests.wordingmodel import (all_may_be_bare, all_wordings, chain, least_in, row_in, small_rows, tree_of,
                                wide_language)


class LeastTest(Case):
    def least(self, text, many):
        self.assertEqual(brackets_least(E, row_in(text)), many)

    def test_examples(self):
        self.assertEqual(brackets_least(E, ROW), 1)
        self.least("( a * not b ) + c", 1)
        self.least("( a ^ b ) ^ c", 1)
        self.least("( - a ) * b", 0)
        self.least("- ( a * b )", 1)
        self.least("not ( a + b )", 0)

    def test_example_of_printing(self):
        language = made_language(("left",) * 4, (("!", "behind", 1), ("not", "ahead", 1), ("+", "between", 2),
                                                 ("*", "between", 3)), (("(", ")"),))
        row = row_in("( a + ( ( b ! ) * ( not c ) ) ) + d", language)
        self.assertEqual(len(row), 9)
        self.assertEqual(brackets_least(language, row), 1)

    def test_operands_and_kept_nodes_alone(self):
        self.least("a", 0)
        self.least("( ( a ) )", 0)
        self.least("[ a ]", 0)
        self.least("[ [ [ a ] ] ]", 0)
        self.assertEqual(brackets_least(made_language(("none",), (), (("[", "]"),)), (("operand", "a"),)), 0)

    def test_kept_pairs_part_contexts(self):
        self.least("a * [ b + c ]", 0)
        self.least("[ a + b ] * c", 0)
        self.least("a * [ not b ] + c", 0)
        self.least("[ a < b ] < c", 0)

    def test_a_node_in_its_pair_hands_on_nothing(self):
        self.least("a * ( not ( b + c ) ) + d", 1)
        self.least("a < ( b < c )", 1)
        self.least("( a < b ) < ( c < d )", 2)
        self.least("( ( a < b ) < c ) < d", 2)

    def test_one_pair_above_may_save_more_beneath(self):
        # In its pair the sum has nothing behind it, so that both of its parts may be bare.
        language = made_language(("left",) * 3, (("f", "ahead", 1), ("*", "between", 3), ("+", "between", 2)),
                                 (("(", ")"),))
        row = row_in("( a * f a + f b ) * c", language)
        found = all_wordings(language, row)
        self.assertEqual(brackets_least(language, row), min(sum(paired) for paired, _, good in found if good))

    def test_drawn_rows_beside_all_wordings(self):
        draw = random.Random(201)
        seen = {}
        for language, row in small_rows(draw, 6, 1200):
            least = brackets_least(language, row)
            good = [sum(paired) for paired, _, is_read in all_wordings(language, row) if is_read]
            self.assertEqual(least, min(good), (language.levels, language.rows, row))
            seen[least] = seen.get(least, 0) + 1
        self.assertTrue(all(seen.get(many, 0) > 10 for many in range(4)), seen)

    def test_the_rule_of_bare_nodes(self):
        draw = random.Random(202)
        for language, row in small_rows(draw, 5, 250):
            tree = tree_of(row)
            for paired, words, good in all_wordings(language, row):
                self.assertEqual(good, all_may_be_bare(language, tree, list(paired)), words)

    def test_long_chains(self):
        draw = random.Random(203)
        self.assertEqual(brackets_least(E, (("ahead", "not"),) * 399 + (("operand", "a"),)), 0)
        self.assertEqual(brackets_least(E, (("kept", "["),) * 399 + (("operand", "a"),)), 0)
        self.assertEqual(brackets_least(E, (("behind", "!"),) * 399 + (("operand", "a"),)), 0)
        left = (("between", "<"),) * 199 + (("operand", "a"),) * 200
        right = (("between", "<"), ("operand", "a")) * 199 + (("operand", "a"),)
        for row in (left, right):
            self.assertEqual(brackets_least(E, row), 198)
            self.assertEqual(brackets_least(E, tuple(("between", "+") if pair[1] == "<" else pair for pair in row)),
                             0 if row == left else 198)
        for _ in range(10):
            language = wide_language(draw)
            row = chain(draw, language, 400)
            self.assertEqual(len(row), 400)
            self.assertEqual(brackets_least(language, row), least_in(language, tree_of(row)))

    def test_larger_drawn_rows(self):
        draw = random.Random(204)
        for _ in range(150):
            language = draw.choice((drawn_language, wide_language))(draw)
            row = drawn_row(draw, language, draw.randint(20, 120))
            self.assertEqual(brackets_least(language, row), least_in(language, tree_of(row)))

    def test_no_said_rows(self):
        self.refused(TooMany, 401, brackets_least, E, (("ahead", "not"),) * 400 + (("operand", "a"),))
        self.refused(BadSaid, 0, brackets_least, E, ())
        self.refused(BadSaid, 6, brackets_least, E, ROW + ROW)
        self.refused(BadSaid, 5, brackets_least, E, ROW[:5])
        for odd in ODD:
            for at in range(len(ROW)):
                self.refused(BadSaid, at, brackets_least, E, ROW[:at] + (odd,) + ROW[at + 1:])

    def test_by_name(self):
        self.assertEqual(brackets_least(row=ROW, language=E), 1)
