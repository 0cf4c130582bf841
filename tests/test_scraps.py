"""Scraps of texts that may be cut anywhere ([17])."""

import random

from anyhalf.alphabet import MARKS, NAMES
from anyhalf.closes import closed
from anyhalf.errors import BadText, TooMany
from anyhalf.halves import Half, many_of
from anyhalf.plainread import read_plain
from anyhalf.scrapends import scrap_half
from anyhalf.scrapjoins import joined_scraps
from anyhalf.scraps import Scrap, made_scrap, told, words_many
from anyhalf.signs import words_of
from tests.common import E, Case, drawn_language, drawn_text, half_from_left, half_told, parts_of, scrap_told

EXAMPLES = {
    "ab +": ("cut", "ab", 0, "+"), " a(": ("cut", "", 2, ""), " ": ("cut", "", 0, ""), "+*": ("run", "+*"),
    "": ("run", ""), "a": ("run", "a"), "a0": ("run", "a0"), "!": ("run", "!"), "(": ("cut", "", 1, ""),
    "()": ("cut", "", 2, ""), "\n": ("cut", "", 0, ""), "a ": ("cut", "a", 0, ""), " a": ("cut", "", 0, "a"),
    "a\n+": ("cut", "a", 0, "+"), "a+": ("cut", "a", 0, "+"), "a+b": ("cut", "a", 1, "b"), "+a+": ("cut", "+", 1, "+"),
    "(a)": ("cut", "", 3, ""), "a)": ("cut", "a", 1, ""), "(a": ("cut", "", 1, "a"), "ab cd": ("cut", "ab", 0, "cd"),
    " ab cd ": ("cut", "", 2, ""), "a b c d": ("cut", "a", 2, "d"), "  \n ": ("cut", "", 0, ""),
    "aaa aaa": ("cut", "aaa", 0, "aaa"), "+ +": ("cut", "+", 0, "+"),
}
SIGNS = "aab1+*- \n()]"


def joined_in_order(draw, language, scraps):
    """The scrap of all of them, two neighbours at a time joined in a drawn order."""
    scraps = list(scraps)
    while len(scraps) > 1:
        at = draw.randrange(len(scraps) - 1)
        scraps[at:at + 2] = [joined_scraps(language, scraps[at], scraps[at + 1])]
    return scraps[0]


class MadeTest(Case):
    def test_examples(self):
        for text, expected in EXAMPLES.items():
            scrap = made_scrap(E, text)
            self.assertIsInstance(scrap, Scrap)
            self.assertEqual(told(scrap), expected, text)
            self.assertEqual(words_many(scrap), len(words_of(text)), text)
            self.assertIsInstance(scrap_half(E, scrap), Half)

    def test_drawn(self):
        draw = random.Random(41)
        for _ in range(400):
            language = drawn_language(draw)
            text = drawn_text(draw, language, draw.randint(0, 12))
            scrap = made_scrap(language, text)
            words = words_of(text)
            if text == "" or not text.strip(NAMES) or not text.strip(MARKS):
                self.assertEqual(told(scrap), ("run", text))
            else:
                head = words[0] if text[0] in NAMES + MARKS else ""
                tail = words[-1] if text[-1] in NAMES + MARKS else ""
                between = len(words) - bool(head) - bool(tail)
                self.assertEqual(told(scrap), ("cut", head, between, tail))
            self.assertEqual(words_many(scrap), len(words))
            half = scrap_half(language, scrap)
            self.assertEqual(many_of(half), len(words))
            self.assertEqual(closed(language, half), read_plain(language, words))
            self.assertEqual(scrap_told(language, scrap)[-1], half_told(half_from_left(language, words)))

    def test_wrong_texts(self):
        for text, index in (("A", 0), ("a b\tc", 3), ("a + %", 4), ("+-;,", 2), ("\r\n", 0), ("ab\u00e9", 2), ("'", 0),
                            ("a" * 3999 + "A", 3999), ("A" * 4000, 0)):
            self.refused(BadText, index, made_scrap, E, text)
        for text in ("a" * 4001, " " * 4001, "A" * 4001, "(" * 5000):
            self.refused(TooMany, len(text), made_scrap, E, text)

    def test_by_name(self):
        scrap = joined_scraps(two=made_scrap(text="b", language=E), one=made_scrap(E, "a"), language=E)
        self.assertEqual(told(scrap=scrap), ("run", "ab"))
        self.assertEqual(words_many(scrap=scrap), 1)
        self.assertEqual(many_of(scrap_half(scrap=scrap, language=E)), 1)


class JoinedTest(Case):
    def test_examples_cut_everywhere(self):
        for text in EXAMPLES:
            whole = scrap_told(E, made_scrap(E, text))
            for cut in range(len(text) + 1):
                both = joined_scraps(E, made_scrap(E, text[:cut]), made_scrap(E, text[cut:]))
                self.assertEqual(scrap_told(E, both), whole, (text, cut))

    def test_all_cuts_in_three_by_both_orders(self):
        for text in ("ab+cd", "a + bc", " ab\ncd ", "(ab)", "+-*+-", "abcde", "a(-b)!", "not\n a", "a  b", "-[]-",
                     "<a<bb<"):
            whole = scrap_told(E, made_scrap(E, text))
            for first in range(len(text) + 1):
                for second in range(first, len(text) + 1):
                    parts = (text[:first], text[first:second], text[second:])
                    one, two, three = [made_scrap(E, part) for part in parts]
                    left = joined_scraps(E, joined_scraps(E, one, two), three)
                    right = joined_scraps(E, one, joined_scraps(E, two, three))
                    self.assertEqual(scrap_told(E, left), whole, (text, first, second))
                    self.assertEqual(scrap_told(E, right), whole, (text, first, second))

    def test_drawn_texts_in_drawn_orders(self):
        draw = random.Random(42)
        for at in range(600):
            language = drawn_language(draw) if draw.random() < 0.6 else E
            text = drawn_text(draw, language, draw.randint(0, 14))
            if at % 3 == 0:
                text = "".join(draw.choice(SIGNS) for _ in range(draw.randint(0, 20)))
            whole = scrap_told(language, made_scrap(language, text))
            parts = [made_scrap(language, part) for part in parts_of(draw, text, draw.randint(1, 9))]
            self.assertEqual(scrap_told(language, joined_in_order(draw, language, parts)), whole, text)

    def test_sign_by_sign(self):
        draw = random.Random(43)
        text = drawn_text(draw, E, 30)
        parts = [made_scrap(E, sign) for sign in text]
        for _ in range(20):
            self.assertEqual(scrap_told(E, joined_in_order(draw, E, parts)), scrap_told(E, made_scrap(E, text)))

    def test_runs_cut_many_times(self):
        draw = random.Random(44)
        for text in ("abc" * 30, "+-!" * 30, "0" * 12, "0" * 13):
            for _ in range(20):
                parts = [made_scrap(E, part) for part in parts_of(draw, text, 12)]
                scrap = joined_in_order(draw, E, parts)
                self.assertEqual(told(scrap), ("run", text))
                self.assertEqual(words_many(scrap), 1)

    def test_a_row_word_cut_within(self):
        one, two, three = [made_scrap(E, part) for part in ("n", "o", "t a")]
        scrap = joined_scraps(E, joined_scraps(E, one, two), three)
        self.assertEqual(told(scrap), ("cut", "not", 0, "a"))
        self.assertEqual(closed(E, scrap_half(E, scrap)), ("", -1, (-1, 0)))
        scrap = joined_scraps(E, scrap, made_scrap(E, "bcdefghijklm"))
        self.assertEqual(closed(E, scrap_half(E, scrap)), ("word", 1, ()))

    def test_handed_scraps_stay(self):
        draw = random.Random(45)
        texts = ["ab", "+ c", "", " ", "d)", "-", "(e"]
        scraps = [made_scrap(E, text) for text in texts]
        before = [scrap_told(E, scrap) for scrap in scraps]
        for _ in range(100):
            one, two = draw.randrange(7), draw.randrange(7)
            both = joined_scraps(E, scraps[one], scraps[two])
            self.assertEqual(scrap_told(E, both), scrap_told(E, made_scrap(E, texts[one] + texts[two])))
        self.assertEqual([scrap_told(E, scrap) for scrap in scraps], before)

    def test_how_many_signs(self):
        for text in ("a", "+", " ", "("):
            long = made_scrap(E, text * 3999)
            full = made_scrap(E, text * 4000)
            both = joined_scraps(E, long, made_scrap(E, "b"))
            self.assertEqual(told(both), told(made_scrap(E, text * 3999 + "b")))
            self.assertEqual(words_many(joined_scraps(E, full, made_scrap(E, ""))), words_many(full))
            self.assertEqual(words_many(joined_scraps(E, made_scrap(E, ""), full)), words_many(full))
            self.refused(TooMany, 4001, joined_scraps, E, long, made_scrap(E, " b"))
            self.refused(TooMany, 4001, joined_scraps, E, made_scrap(E, "b"), full)
            self.refused(TooMany, 8000, joined_scraps, E, full, full)

    def test_blanks_count_as_signs(self):
        self.refused(TooMany, 4001, joined_scraps, E, made_scrap(E, " " * 2001), made_scrap(E, "\n" * 2000))

    def test_deep(self):
        for text in ("(" * 1999 + "a" + ")" * 1999, "a" + " +a" * 1333, ")" * 4000, "not " * 1000, "a!" + " !" * 1999):
            expected = read_plain(E, words_of(text))
            for size in (1, 7, 1000):
                scrap = made_scrap(E, "")
                for at in range(0, len(text), size):
                    scrap = joined_scraps(E, scrap, made_scrap(E, text[at:at + size]))
                self.assertEqual(closed(E, scrap_half(E, scrap)), expected)
