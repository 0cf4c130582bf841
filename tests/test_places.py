"""Places of words, and words at signs ([21])."""

import random

from anyhalf.errors import BadPlace, NoSuch
from anyhalf.pieces import built
from anyhalf.places import place_of, word_at
from anyhalf.signs import spans_of, words_of
from tests.common import E, Case
from tests.test_pieceasks import edited_pieces

ODD = (-1, True, False, None, "0", 0.0, (0,), -10 ** 30)


def place_by_signs(text, sign):
    """The place of a sign, counted sign by sign."""
    row = column = 0
    for other in text[:sign]:
        row, column = (row + 1, 0) if other == "\n" else (row, column + 1)
    return (sign, row, column)


class PlacesTest(Case):
    def all_places(self, piece, text):
        spans = spans_of(text)
        for k, (begin, _) in enumerate(spans):
            self.assertEqual(place_of(piece, k), place_by_signs(text, begin), text)
        self.assertEqual(place_of(piece, len(spans)), place_by_signs(text, len(text)), text)
        self.refused(NoSuch, len(spans) + 1, place_of, piece, len(spans) + 1)
        for sign in range(len(text)):
            within = [number for number, (begin, end) in enumerate(spans) if begin <= sign < end]
            self.assertEqual(word_at(piece, sign), within[0] if within else -1, (text, sign))
        self.refused(BadPlace, len(text), word_at, piece, len(text))

    def test_example(self):
        text = "\nnot ab\n\n  +(c\n"
        piece, _ = built(E, text)
        places = ((1, 1, 0), (5, 1, 4), (11, 3, 2), (12, 3, 3), (13, 3, 4), (15, 4, 0))
        self.assertEqual(tuple(place_of(piece, k) for k in range(6)), places)
        words = (-1, 0, 0, 0, -1, 1, 1, -1, -1, -1, -1, 2, 3, 4, -1)
        self.assertEqual(tuple(word_at(piece, sign) for sign in range(15)), words)

    def test_none(self):
        self.assertEqual(place_of(None, 0), (0, 0, 0))
        for k in (1,) + ODD:
            self.refused(NoSuch, k, place_of, None, k)
        for sign in (0, 1) + ODD:
            self.refused(BadPlace, sign, word_at, None, sign)

    def test_blanks_and_line_feeds_anywhere(self):
        for text in (" ", "\n", "\n\n", " \n ", "a", " a", "a ", "\na", "a\n", "\n a \n", "a\nb", "a\n\nb\n", "ab+cd",
                     "  ab\n  cd  \n", "not\nnot", "((\n))", "abcdefghijklmnop\nq", "a\n" * 9, "\n" * 20 + "a"):
            self.all_places(built(E, text)[0], text)

    def test_drawn_pieces(self):
        draw = random.Random(101)
        for _ in range(15):
            for piece, text in edited_pieces(draw, E, 12):
                self.all_places(piece, text)

    def test_wrong_numbers(self):
        piece, _ = built(E, "a + b * c")
        for k in (6, 9, 4000, 10 ** 30) + ODD:
            self.refused(NoSuch, k, place_of, piece, k)
        for sign in (9, 10, 4000, 10 ** 30) + ODD:
            self.refused(BadPlace, sign, word_at, piece, sign)

    def test_by_name(self):
        piece, _ = built(E, "a + b * c")
        self.assertEqual(place_of(k=1, piece=piece), (2, 0, 2))
        self.assertEqual(word_at(sign=2, piece=piece), 1)

    def test_long(self):
        text = "a +\n" * 1000
        piece, _ = built(E, text)
        self.assertEqual(len(words_of(text)), 2000)
        for k in range(0, 2000, 37):
            self.assertEqual(place_of(piece, k), (k * 2, k // 2, k % 2 * 2))
        self.assertEqual(place_of(piece, 2000), (4000, 1000, 0))
        for sign in range(0, 4000, 37):
            self.assertEqual(word_at(piece, sign), (sign // 2 if sign % 2 == 0 else -1))
