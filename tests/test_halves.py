import random

from anyhalf.closes import closed
from anyhalf.errors import BadWord, TooMany
from anyhalf.halves import Half, empty_half, many_of, word_half
from anyhalf.joins import joined
from anyhalf.judge import table_right
from anyhalf.plainread import read_plain
from tests.common import (FAULTS, E, Case, all_halves, deep_brackets, drawn_language, drawn_words, half_by_middles,
                          half_from_left, half_from_right, half_in_order, split, with_reckoning)
from tests.test_plainread import BAD, GOOD

WAYS = (half_from_left, half_from_right, half_by_middles)


class HalvesTest(Case):
    def test_made_halves(self):
        for half, many in ((empty_half(E), 0), (word_half(E, "a"), 1), (word_half(E, "++"), 1),
                           (half_from_left(E, split("a + )")), 3)):
            self.assertIsInstance(half, Half)
            self.assertEqual(many_of(half), many)

    def test_one_word(self):
        for word in ("a", "+", "-", "not", "!", "(", "]", "{", "++", "abcdefghijklm"):
            self.assertEqual(closed(E, word_half(E, word)), read_plain(E, (word,)))
        self.assertEqual(closed(E, empty_half(E)), ("end", 0, ()))

    def test_no_word_by_form(self):
        for odd in ("", "a+", "()", " ", "A", "a b", "a\n", "%"):
            self.refused(BadWord, 0, word_half, E, odd)

    def test_by_name(self):
        half = joined(two=word_half(word="a", language=E), one=empty_half(language=E), language=E)
        self.assertEqual(many_of(half=half), 1)
        self.assertEqual(closed(half=half, language=E), ("", -1, (-1,)))


class JoinedTest(Case):
    def test_examples_in_every_order(self):
        for text in list(GOOD) + list(BAD):
            words = split(text)
            if 0 < len(words) <= 7:
                for half in all_halves(E, words):
                    self.assertEqual(closed(E, half), read_plain(E, words), text)

    def test_examples_from_both_ends(self):
        for text in list(GOOD) + list(BAD):
            for way in WAYS[:2]:
                self.assertEqual(closed(E, way(E, split(text))), read_plain(E, split(text)), text)

    def test_drawn_words_in_every_order(self):
        draw = random.Random(11)
        for _ in range(300):
            language = drawn_language(draw)
            words = drawn_words(draw, language, draw.randint(1, 6))
            reading = read_plain(language, words)
            for half in all_halves(language, words):
                self.assertEqual(closed(language, half), reading)

    def test_drawn_words_in_drawn_orders(self):
        draw = random.Random(12)
        kinds = {kind: 0 for kind in FAULTS + ("",)}
        for _ in range(3000):
            language = drawn_language(draw) if draw.random() < 0.7 else E
            words = drawn_words(draw, language, draw.randint(0, 18))
            reading = read_plain(language, words)
            kinds[reading[0]] += 1
            half = half_in_order(draw, language, words, draw.randint(0, 3))
            self.assertEqual(many_of(half), len(words))
            self.assertEqual(closed(language, half), reading)
            if reading[0] == "":
                self.assertIs(table_right(language, words, reading[2]), True)
        self.assertGreater(min(kinds.values()), 30)

    def test_longer_words_in_drawn_orders(self):
        draw = random.Random(13)
        for _ in range(60):
            words = drawn_words(draw, E, draw.randint(50, 200), 0)
            # Behind each cut what is left is a piece of its own, read from both states.
            cut = draw.randint(0, len(words))
            for part in (words, words[cut:], words[:cut], words[cut:] + words[:cut]):
                self.assertEqual(closed(E, half_in_order(draw, E, part)), read_plain(E, part))

    def test_with_a_reckoning(self):
        draw = random.Random(14)
        for size in (0, 2, 7, 10 ** 9):
            for _ in range(150):
                language = with_reckoning(draw, drawn_language(draw), size)
                words = drawn_words(draw, language, draw.randint(0, 12))
                self.assertEqual(closed(language, half_in_order(draw, language, words)), read_plain(language, words))

    def test_empty_halves_change_nothing(self):
        draw = random.Random(15)
        for text in ("a + b", ") +", "a b", ""):
            half = half_from_left(E, split(text))
            reading = read_plain(E, split(text))
            for other in (joined(E, empty_half(E), half), joined(E, half, empty_half(E)),
                          joined(E, empty_half(E), joined(E, half, empty_half(E)))):
                self.assertEqual(many_of(other), len(split(text)))
                self.assertEqual(closed(E, other), reading)
        self.assertEqual(closed(E, half_in_order(draw, E, (), 3)), ("end", 0, ()))

    def test_handed_halves_stay(self):
        draw = random.Random(16)
        for _ in range(100):
            language = drawn_language(draw)
            parts = [drawn_words(draw, language, draw.randint(0, 6)) for _ in range(6)]
            halves = [half_in_order(draw, language, part) for part in parts]
            for _ in range(12):
                one, two = draw.randrange(6), draw.randrange(6)
                both = joined(language, halves[one], halves[two])
                self.assertEqual(closed(language, both), read_plain(language, parts[one] + parts[two]))
            for part, half in zip(parts, halves):
                self.assertEqual(many_of(half), len(part))
                self.assertEqual(closed(language, half), read_plain(language, part))

    def test_one_half_many_times(self):
        half = word_half(E, "a")
        plus = word_half(E, "+")
        whole = joined(E, half, plus)
        for _ in range(4):
            whole = joined(E, whole, whole)
        words = ("a", "+") * 16 + ("a",)
        self.assertEqual(closed(E, joined(E, whole, half)), read_plain(E, words))

    def test_how_many_words(self):
        half = word_half(E, "not")
        for _ in range(11):
            half = joined(E, half, half)
        half = joined(E, half, half_by_middles(E, ("not",) * 1952))
        self.assertEqual(many_of(half), 4000)
        self.assertEqual(closed(E, half), ("end", 4000, ()))
        self.assertEqual(many_of(joined(E, empty_half(E), half)), 4000)
        self.refused(TooMany, 4001, joined, E, half, word_half(E, "a"))
        self.refused(TooMany, 4001, joined, E, word_half(E, "++"), half)
        self.refused(TooMany, 8000, joined, E, half, half)

    def test_deep(self):
        rows = [deep_brackets(1999), ("not",) * 3999 + ("a",), split("a ^ " * 1999 + "a"), split("a + " * 1999 + "a"),
                ("a",) + ("!",) * 3999, (")",) * 4000, ("(",) * 4000, deep_brackets(1332, split("- a + b")),
                ("-", "(") * 999 + ("a",) + (")", "!") * 999, ("[",) * 2000 + ("a",) + (")",) * 1999]
        for words in rows:
            reading = read_plain(E, words)
            for way in WAYS:
                self.assertEqual(closed(E, way(E, words)), reading)
