"""Printing said rows ([29], [27], [28], [0.3](d))."""

import random

from anyhalf.errors import BadSaid, TooMany
from anyhalf.languages import made_language
from anyhalf.least import brackets_least
from anyhalf.plainread import read_plain
from anyhalf.printed import full_words, printed
from anyhalf.saidreads import said
from tests.common import E, Case, drawn_language, drawn_row, split
from tests.test_saidrows import ODD, ROW
from tests.wordingmodel import all_wordings, chain, nodes_with_rows, row_in, small_rows, wide_language


class PrintedTest(Case):
    def prints(self, text, words):
        self.assertEqual(printed(E, row_in(text)), split(words))

    def full(self, text, words):
        self.assertEqual(full_words(E, row_in(text)), split(words))

    def test_examples(self):
        self.assertEqual(printed(E, ROW), split("a * ( not b ) + c"))
        self.prints("( a ^ b ) ^ c", "( a ^ b ) ^ c")
        self.prints("( - a ) * b", "- a * b")
        self.prints("- ( a * b )", "- ( a * b )")
        self.prints("not ( a + b )", "not a + b")

    def test_example_with_two_ways(self):
        language = made_language(("left",) * 4, (("!", "behind", 1), ("not", "ahead", 1), ("+", "between", 2),
                                                 ("*", "between", 3)), (("(", ")"),))
        row = row_in("( a + ( ( b ! ) * ( not c ) ) ) + d", language)
        self.assertEqual(printed(language, row), split("a + ( b ! * not c ) + d"))

    def test_a_node_is_bare_where_it_costs_no_more(self):
        # Either the sum or the not in it may have the one pair: the sum, further up, is left bare.
        self.prints("( a + ( not b ) ) - c", "a + ( not b ) - c")
        self.prints("( ( a + ( not b ) ) ) ^ c", "( a + not b ) ^ c")

    def test_operands_and_kept_nodes(self):
        self.prints("( a )", "a")
        self.prints("[ ( a ) ]", "[ a ]")
        self.prints("[ ( [ ( a + b ) ] * c ) ]", "[ [ a + b ] * c ]")
        three = made_language(("left",), (), (("{", "]"), ("(", "}"), ("[", ")")))
        self.assertEqual(printed(three, (("kept", "["), ("kept", "("), ("operand", "a"))), split("[ ( a } )"))

    def test_the_plain_pair_is_the_first_one(self):
        language = made_language(("left",), (("+", "between", 1),), (("{", "}"), ("(", ")")))
        row = (("between", "+"), ("operand", "a"), ("between", "+"), ("operand", "b"), ("operand", "c"))
        self.assertEqual(printed(language, row), split("a + { b + c }"))
        self.assertEqual(full_words(language, row), split("{ a + { b + c } }"))

    def test_full_words(self):
        self.assertEqual(full_words(E, ROW), split("( ( a * ( not b ) ) + c )"))
        self.full("a", "a")
        self.full("[ a ]", "[ a ]")
        self.full("not a", "( not a )")
        self.full("a !", "( a ! )")
        self.full("a + b", "( a + b )")
        self.full("[ - a ! ]", "[ ( - ( a ! ) ) ]")
        self.full("[ [ a ] ] - - b", "( [ [ a ] ] - ( - b ) )")

    def test_drawn_rows_beside_all_wordings(self):
        draw = random.Random(211)
        for language, row in small_rows(draw, 6, 900):
            found = all_wordings(language, row)
            least = min(sum(paired) for paired, _, good in found if good)
            # Of the best wordings the one whose nodes are bare, the first ones ahead of all others.
            best = min((paired, words) for paired, words, good in found if good and sum(paired) == least)
            self.assertEqual(printed(language, row), best[1])
            self.assertEqual(full_words(language, row), found[-1][1])

    def test_read_as_the_row(self):
        draw = random.Random(212)
        for _ in range(250):
            language = draw.choice((drawn_language, wide_language))(draw)
            row = drawn_row(draw, language, draw.randint(1, 120))
            self.check_words(language, row, printed(language, row), brackets_least(language, row))
            self.check_words(language, row, full_words(language, row), nodes_with_rows(row))

    def check_words(self, language, row, words, pairs):
        kind, _, table = read_plain(language, words)
        self.assertEqual(kind, "")
        self.assertEqual(said(language, words, table), row)
        openings = [pair[0] for pair in language.pairs[1:]]
        self.assertEqual(words.count(language.pairs[0][0]), pairs)
        self.assertEqual(words.count(language.pairs[0][1]), pairs)
        kept = [word for kind, word in row if kind == "kept"]
        self.assertEqual([word for word in words if word in openings], kept)

    def test_rows_of_400_pairs(self):
        draw = random.Random(213)
        for row in ((("ahead", "not"),) * 399 + (("operand", "a"),), (("behind", "!"),) * 399 + (("operand", "a"),),
                    (("kept", "["),) * 399 + (("operand", "a"),), (("kept", "["), ("between", "<"), ("operand", "a")) * 133
                    + (("operand", "a"),), (("between", "^"),) * 199 + (("operand", "a"),) * 200,
                    (("between", "*"), ("ahead", "not"), ("operand", "a")) * 133 + (("operand", "a"),)):
            self.assertIn(len(row), (399, 400))
            self.check_words(E, row, printed(E, row), brackets_least(E, row))
            self.check_words(E, row, full_words(E, row), nodes_with_rows(row))
        for _ in range(20):
            language = wide_language(draw)
            row = chain(draw, language, 400)
            self.check_words(language, row, printed(language, row), brackets_least(language, row))
            self.check_words(language, row, full_words(language, row), nodes_with_rows(row))

    def test_no_said_rows(self):
        for call in (printed, full_words):
            self.refused(TooMany, 401, call, E, (("ahead", "not"),) * 400 + (("operand", "a"),))
            self.refused(TooMany, 401, call, E, (None,) * 401)
            self.refused(BadSaid, 0, call, E, ())
            self.refused(BadSaid, 6, call, E, ROW + ROW)
            for many in range(1, 6):
                self.refused(BadSaid, many, call, E, ROW[:many])
            for odd in ODD:
                for at in range(len(ROW)):
                    self.refused(BadSaid, at, call, E, ROW[:at] + (odd,) + ROW[at + 1:])

    def test_by_name(self):
        self.assertEqual(printed(row=ROW, language=E), printed(E, ROW))
        self.assertEqual(full_words(row=ROW, language=E), full_words(E, ROW))
