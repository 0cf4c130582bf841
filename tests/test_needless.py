"""Needless brackets, and words slimmed ([31], [29])."""

import random

from anyhalf.errors import BadWord, NoReading, TooMany
from anyhalf.languages import made_language
from anyhalf.least import brackets_least
from anyhalf.needless import needless, slimmed
from anyhalf.plainread import read_plain
from anyhalf.printed import full_words, printed
from anyhalf.rolesof import roles_along
from anyhalf.saidreads import said
from tests.common import E, Case, deep_brackets, drawn_language, drawn_row, drawn_words, good_words, split
from tests.wordingmodel import is_read_as

FAULTY = {"a $$": ("word", 1), "( + a )": ("want", 1), "a b": ("have", 1), "a < b < c": ("clash", 3),
          "( a ]": ("close", 2), "a )": ("close", 1), "a +": ("end", 2), "": ("end", 0), "( a": ("open", 0)}


def bracketed(draw, language, words):
    """Good words with some more pairs put round operands and round brackets."""
    for _ in range(draw.randint(0, 4)):
        table = read_plain(language, words)[2]
        roles = roles_along(language, words)
        at = draw.choice([at for at, role in enumerate(roles) if role[0] in ("operand", "close")])
        begin = at if roles[at][0] == "operand" else [i for i, up in enumerate(table) if up == at][0]
        pair = language.pairs[draw.choice((0, 0, 0, len(language.pairs) - 1))]
        words = words[:begin] + (pair[0],) + words[begin:at + 1] + (pair[1],) + words[at + 1:]
    return words


def without(words, table, closing):
    """The words without a pair."""
    opening = table.index(closing)
    return words[:opening] + words[opening + 1:closing] + words[closing + 1:]


def needless_by_hand(language, words):
    """Each plain pair is taken out, and what is left is read again."""
    table = read_plain(language, words)[2]
    row = said(language, words, table)
    closings = [at for at, role in enumerate(roles_along(language, words)) if role == ("close", 0)]
    return tuple(at for at in closings if is_read_as(language, without(words, table, at), row)), closings


class NeedlessTest(Case):
    def found(self, text, numbers, language=E):
        self.assertEqual(needless(language, split(text)), numbers)

    def test_needed_and_needless_pairs(self):
        self.found("( a * b ) + c", (4,))
        self.found("a * ( b + c )", ())
        self.found("( a ^ b ) ^ c", ())
        self.found("a ^ ( b ^ c )", (6,))
        self.found("( a < b ) < c", ())
        self.found("- ( a * b )", ())
        self.found("not ( a + b )", (5,))
        self.found("( - a ) * b", (3,))
        self.found("a * ( not b ) + c", ())
        self.found("a * ( not b )", (5,))
        self.found("a + b", ())

    def test_pairs_round_operands_and_brackets(self):
        self.found("( a )", (2,))
        self.found("( ( a ) )", (3, 4))
        self.found("( [ a + b ] ) * c", (6,))
        self.found("[ ( a + b ) ] * c", (5,))
        self.found("[ ( a ) ]", (3,))
        self.found("( ( a + b ) ) * c", (5, 6))
        self.found("( ( ( a + b ) ) ) * c", (6, 7, 8))

    def test_kept_pairs_are_never_told(self):
        self.found("[ a ]", ())
        self.found("[ [ a ] + b ]", ())

    def test_each_pair_alone(self):
        # Either pair may go, but not both.
        self.found("a + ( ( not b ) ) - c", (6, 7))
        self.found("( a + ( not b ) ) - c", (6, 7))

    def test_a_word_far_down_an_edge(self):
        self.found("( a + - not b ) * c", ())
        self.found("( a ^ - not b ) + c", ())
        self.found("( a ^ - b ) + c", (5,))
        self.found("a * ( b ! + c )", ())
        self.found("a < ( b ^ c + a < b )", ())
        self.found("a + ( b ^ c * a )", (8,))
        self.found("[ not ( a < b ) ] < c", (6,))

    def test_weak_words_behind_and_ahead(self):
        # The sum of a weak word behind must not lose it to what stands ahead of the pair, and the other way about.
        language = made_language(("left",) * 4, (("!", "behind", 1), ("not", "ahead", 1), ("+", "between", 2),
                                                 ("*", "between", 3)), (("(", ")"),))
        self.found("a + ( b ! * c )", (), language)
        self.found("( b ! * c ) + a", (5,), language)
        self.found("a + ( b * c ! )", (), language)
        self.found("( b * not c ) + a", (), language)
        self.found("a + ( b * not c )", (7,), language)
        self.found("( not b * c ) + a", (), language)
        self.found("a + ( not b * c )", (7,), language)
        self.found("a + ( b ! * not c ) + a", (), language)
        self.found("a + ( b ! ! * c * a )", (), language)
        self.found("( a * b * - not c ) + a", ())

    def test_drawn_words(self):
        draw = random.Random(231)
        seen = [0, 0]
        for _ in range(1000):
            language = drawn_language(draw)
            words = bracketed(draw, language, good_words(draw, language, draw.randint(1, 25)))
            expected, closings = needless_by_hand(language, words)
            self.assertEqual(needless(language, words), expected, words)
            seen[0] += len(expected)
            seen[1] += len(closings) - len(expected)
        self.assertTrue(min(seen) > 120, seen)

    def test_drawn_wordings(self):
        draw = random.Random(232)
        for _ in range(300):
            language = drawn_language(draw)
            row = drawn_row(draw, language, 20)
            self.assertEqual(needless(language, full_words(language, row)),
                             needless_by_hand(language, full_words(language, row))[0])
            slim = printed(language, row)
            self.assertEqual(needless(language, slim), ())

    def test_faults(self):
        for call in (needless, slimmed):
            for text, fault in FAULTY.items():
                self.refused(NoReading, fault, call, E, split(text))

    def test_drawn_faults(self):
        draw = random.Random(233)
        for _ in range(200):
            language = drawn_language(draw)
            words = drawn_words(draw, language, draw.randint(0, 12), 0.1)
            kind, number, _ = read_plain(language, words)
            for call in (needless, slimmed):
                if kind != "":
                    self.refused(NoReading, (kind, number), call, language, words)
                else:
                    call(language, words)

    def test_errors_of_words(self):
        for call in (needless, slimmed):
            self.refused(TooMany, 4001, call, E, ("a",) * 4001)
            self.refused(TooMany, 4001, call, E, ("",) * 4001)
            self.refused(BadWord, 1, call, E, (")", "a b", ""))
            self.refused(BadWord, 0, call, E, (None,))

    def test_long_words(self):
        words = deep_brackets(1999)
        self.assertEqual(needless(E, words), tuple(range(2000, 3999)))
        self.assertEqual(slimmed(E, words), ("a",))
        words = split("( a + " * 800 + "b" + " )" * 800)
        self.assertEqual(needless(E, words), (3200,))
        words = split("( " * 800 + "a" + " + b )" * 800)
        self.assertEqual(len(needless(E, words)), 800)
        words = split("( not " * 1333 + "a" + " )" * 1333)
        self.assertEqual(len(needless(E, words)), 1333)
        words = split("( a ) + " * 999 + "( a )")
        self.assertEqual(needless(E, words), tuple(range(2, 3999, 4)))

    def test_by_name(self):
        self.assertEqual(needless(words=split("( a )"), language=E), (2,))
        self.assertEqual(slimmed(words=split("( a )"), language=E), ("a",))


class SlimmedTest(Case):
    def slim(self, text, words):
        self.assertEqual(slimmed(E, split(text)), split(words))

    def test_words(self):
        self.slim("( ( a * ( not b ) ) + c )", "a * ( not b ) + c")
        self.slim("( a + ( not b ) ) - c", "a + ( not b ) - c")
        self.slim("( [ ( a ) ] )", "[ a ]")
        self.slim("a + b", "a + b")

    def test_drawn_words(self):
        draw = random.Random(234)
        for _ in range(300):
            language = drawn_language(draw)
            words = bracketed(draw, language, good_words(draw, language, draw.randint(1, 25)))
            row = said(language, words, read_plain(language, words)[2])
            slim = slimmed(language, words)
            self.assertEqual(slim, printed(language, row))
            self.assertTrue(is_read_as(language, slim, row))
            self.assertEqual(slim.count(language.pairs[0][0]), brackets_least(language, row))
            self.assertLessEqual(len(slim), len(words))

    def test_long_said_rows(self):
        self.assertEqual(len(slimmed(E, split("not " * 399 + "a"))), 400)
        self.refused(TooMany, 401, slimmed, E, split("not " * 400 + "a"))
        self.refused(TooMany, 3999, slimmed, E, split("a + " * 1999 + "a"))
        self.refused(TooMany, 2000, slimmed, E, ("[",) * 1999 + ("a",) + ("]",) * 1999)
        self.assertEqual(slimmed(E, ("(", "[") * 399 + ("a",) + ("]", ")") * 399), ("[",) * 399 + ("a",) + ("]",) * 399)

    def test_other_brackets(self):
        language = made_language(("none",), (("+", "between", 1),), ((")", "{"), ("(", "]")))
        self.assertEqual(needless(language, split(") a + b { + ) c {")), (8,))
        self.assertEqual(slimmed(language, split(") a + b { + ) c {")), split(") a + b { + c"))
