"""What is missing around a piece ([16])."""

import itertools
import random

from anyhalf.errors import NoReading
from anyhalf.halves import empty_half
from anyhalf.languages import made_language
from anyhalf.outlines import outline
from anyhalf.plainread import read_plain
from anyhalf.wraps import wrapped
from tests.common import (E, Case, all_halves, bent, deep_brackets, drawn_language, drawn_words, grown_words,
                          half_by_middles, half_from_left, half_from_right, half_in_order, split)

EXAMPLES = {
    "+ b )": ("( a", ""),
    "a * (": ("", "a )"),
    "": ("", "a"),
    ") ]": ("[ ( a", ""),
    "a": ("", ""),
    "+": ("a", "a"),
    "-": ("", "a"),
    "( [": ("", "a ] )"),
    "a ) ] + ( [ b": ("[ (", "] )"),
    "^ b ] ) - [ ( (": ("( [ a", "a ) ) ]"),
    ") ] ) + ( [ a ] - [ b": ("( [ ( a", "] )"),
    "a ! ) ) (": None,
}


def good_around(language, ahead, words, behind):
    return read_plain(language, ahead + words + behind)[0] == ""


class WrapsTest(Case):
    def test_examples_in_every_order(self):
        for text, expected in EXAMPLES.items():
            words = split(text)
            for half in all_halves(E, words) if 0 < len(words) < 8 else [half_from_right(E, words)]:
                if expected is None:
                    self.refused(NoReading, ("have", len(words) - 1), wrapped, E, half)
                else:
                    self.assertEqual(wrapped(E, half), (split(expected[0]), split(expected[1])), text)

    def test_faults_of_both_sides(self):
        for text, fault in (("a b", ("have", 1)), ("a + )", ("want", 2)), ("+ + +", ("want", 0)), ("++", ("word", 0)),
                            ("a ++", ("word", 1)), ("+ a b", ("want", 0)), ("( a ]", ("close", 2)),
                            ("a < b < c", ("clash", 3)), ("- < a ++", ("want", 1)), ("- a < b < ++", ("clash", 4))):
            for half in all_halves(E, split(text)):
                self.refused(NoReading, fault, wrapped, E, half)

    def test_fresh_ahead_of_held(self):
        # - stands ahead and between, so both sides of - a are read; fresh needs no word.
        self.assertEqual(wrapped(E, half_from_left(E, split("- a"))), ((), ()))
        self.assertEqual(wrapped(E, half_from_left(E, split("- a )"))), (("(",), ()))

    def test_name_in_no_row(self):
        names = "abcdefghijklmnopqrstuvwxyz"
        for many in (0, 1, 2, 7, 23, 24):
            rows = tuple((name, ("ahead", "behind", "between")[at % 3], 1) for at, name in enumerate(names[:many]))
            language = made_language(("left",), rows, (("(", ")"),))
            name = names[many]
            self.assertEqual(wrapped(language, empty_half(language)), ((), (name,)))
            self.assertEqual(wrapped(language, half_from_left(language, ("(", "z"))), ((), (")",)))
            self.assertEqual(wrapped(language, half_from_left(language, (")",))), (("(", name), ()))

    def test_name_between_names(self):
        language = made_language(("left",), (("b", "between", 1), ("a", "ahead", 1), ("d", "behind", 1)), (("(", ")"),))
        self.assertEqual(wrapped(language, half_from_left(language, ("b", "a"))), (("c",), ("c",)))

    def test_no_words(self):
        draw = random.Random(31)
        for _ in range(5):
            self.assertEqual(wrapped(E, half_in_order(draw, E, (), 3)), ((), ("a",)))

    def test_brackets_of_all_pairs_mixed(self):
        draw = random.Random(32)
        pairs = (("(", ")"), ("]", "["), ("{", "}"))
        language = made_language(("left",), (), pairs)
        for _ in range(200):
            closing = [draw.choice(pairs) for _ in range(draw.randint(0, 6))]
            opening = [draw.choice(pairs) for _ in range(draw.randint(0, 6))]
            words = ("a",) + tuple(pair[1] for pair in closing)
            half = half_in_order(draw, language, words)
            self.assertEqual(wrapped(language, half), (tuple(pair[0] for pair in closing[::-1]), ()))
            words = tuple(pair[0] for pair in opening) + ("a",)
            half = half_in_order(draw, language, words)
            self.assertEqual(wrapped(language, half), ((), tuple(pair[1] for pair in opening[::-1])))

    def test_drawn(self):
        draw = random.Random(33)
        many = 0
        for _ in range(2000):
            language = drawn_language(draw) if draw.random() < 0.6 else E
            words = drawn_words(draw, language, draw.randint(0, 14), 0.02)
            if draw.random() < 0.5:
                words = grown_words(draw, language, 14)
                begin = draw.randint(0, len(words))
                words = words[begin:draw.randint(begin, len(words))]
            if draw.random() < 0.2:
                words = bent(draw, language, words)
            half = half_in_order(draw, language, words)
            fresh, held = outline(half, False)[0], outline(half, True)[0]
            if fresh and held:
                self.refused(NoReading, fresh, wrapped, language, half)
            else:
                many += 1
                ahead, behind = wrapped(language, half)
                self.assertTrue(good_around(language, ahead, words, behind), (ahead, words, behind))
        self.assertGreater(many, 1000)

    def test_the_fewest(self):
        draw = random.Random(34)
        tried = {many: 0 for many in range(4)}
        for _ in range(600):
            language = drawn_language(draw)
            words = drawn_words(draw, language, draw.randint(0, 6), 0.05)
            half = half_in_order(draw, language, words)
            stock = ["a"] + sorted({row[0] for row in language.rows})
            stock += [sign for pair in language.pairs for sign in pair]
            most = 2
            if not outline(half, False)[0] or not outline(half, True)[0]:
                ahead, behind = wrapped(language, half)
                most = min(2, len(ahead) + len(behind) - 1)
                if len(ahead) + len(behind) < 4:
                    tried[len(ahead) + len(behind)] += 1
            for total in range(most + 1):
                for more in itertools.product(stock, repeat=total):
                    for cut in range(total + 1):
                        self.assertFalse(good_around(language, more[:cut], words, more[cut:]), (words, more, cut))
        self.assertGreater(min(tried.values()), 20)

    def test_deep(self):
        for way in (half_from_left, half_from_right, half_by_middles):
            for words, expected in ((deep_brackets(1999), ((), ())), (("(",) * 4000, ((), ("a",) + (")",) * 4000)),
                                    (("]",) * 4000, (("[",) * 4000 + ("a",), ())), (("not",) * 4000, ((), ("a",)))):
                self.assertEqual(wrapped(E, way(E, words)), expected)

    def test_by_name(self):
        self.assertEqual(wrapped(half=empty_half(E), language=E), ((), ("a",)))
