"""Questions to pieces and stretches of them ([20])."""

import random

from anyhalf.closes import closed
from anyhalf.errors import BadPlace
from anyhalf.glue import glued
from anyhalf.halves import many_of
from anyhalf.parting import parted, replaced
from anyhalf.pieceasks import half_of, reading, shape, text_of
from anyhalf.pieces import built
from anyhalf.plainread import read_plain
from anyhalf.signs import words_of
from anyhalf.stretches import stretch
from tests.common import E, Case, drawn_language, drawn_text, half_from_left, half_told
from tests.piecemodel import high, model_of, text_in

EXAMPLE = "a + b * c"


def model_shape(model):
    if model is None:
        return ()
    node = (high(model), len(text_in(model)))
    return (node,) if isinstance(model, str) else (node,) + model_shape(model[0]) + model_shape(model[1])


def edited_pieces(draw, language, steps):
    """Pieces that came about in many ways, each with its text."""
    stock = [(None, "")]
    for _ in range(steps):
        piece, text = draw.choice(stock)
        way = draw.randrange(4)
        if way == 0:
            new = drawn_text(draw, language, draw.randint(0, 12))
            stock.append((built(language, new)[0], new))
        elif way == 1:
            other, behind = draw.choice(stock)
            if len(text + behind) <= 200:
                stock.append((glued(language, piece, other)[0], text + behind))
        elif way == 2:
            at = draw.randint(0, len(text))
            ahead, behind, _ = parted(language, piece, at)
            stock += [(ahead, text[:at]), (behind, text[at:])]
        else:
            at = draw.randint(0, len(text))
            gone = draw.randint(0, len(text) - at) if draw.random() < 0.5 else 0
            put = drawn_text(draw, language, draw.randint(0, 5))
            stock.append((replaced(language, piece, at, gone, put)[0], text[:at] + put + text[at + gone:]))
    return stock


class PieceAsksTest(Case):
    def test_none(self):
        self.assertEqual((text_of(None), shape(None)), ("", ()))
        self.assertEqual(many_of(half_of(E, None)), 0)
        self.assertEqual(half_told(half_of(E, None)), half_told(half_from_left(E, ())))
        self.assertEqual(reading(E, None), ("end", 0, ()))

    def test_example(self):
        piece, _ = built(E, EXAMPLE)
        self.assertEqual((text_of(piece), shape(piece)), (EXAMPLE, ((1, 9), (0, 8), (0, 1))))
        self.assertEqual(reading(E, piece), ("", -1, (1, -1, 3, 1, 3)))
        piece, _ = replaced(E, piece, 4, 1, "cd")
        self.assertEqual(text_of(piece), "a + cd * c")
        self.assertEqual(shape(piece), ((2, 10), (1, 6), (0, 4), (0, 2), (1, 4), (0, 3), (0, 1)))
        self.assertEqual(reading(E, piece), ("", -1, (1, -1, 3, 1, 3)))

    def test_drawn_pieces(self):
        draw = random.Random(91)
        for _ in range(60):
            language = drawn_language(draw) if draw.random() < 0.6 else E
            for piece, text in edited_pieces(draw, language, 12):
                words = words_of(text)
                self.assertEqual(text_of(piece), text)
                self.assertEqual(shape(piece), model_shape(model_of(piece)))
                half = half_of(language, piece)
                self.assertEqual(many_of(half), len(words))
                self.assertEqual(half_told(half), half_told(half_from_left(language, words)))
                self.assertEqual(reading(language, piece), read_plain(language, words))
                self.assertEqual(reading(language, piece), closed(language, half))

    def test_by_name(self):
        piece, _ = built(E, EXAMPLE)
        self.assertEqual(text_of(piece=piece), EXAMPLE)
        self.assertEqual(len(shape(piece=piece)), 3)
        self.assertEqual(many_of(half_of(piece=piece, language=E)), 5)
        self.assertEqual(reading(piece=piece, language=E)[0], "")

    def test_deep(self):
        for text in ("(" * 1999 + "a" + ")" * 1999, "a" + " +a" * 1333, ")" * 4000, "not " * 1000, "a" * 4000):
            piece, _ = built(E, text)
            for _ in range(2):
                self.assertEqual(text_of(piece), text)
                self.assertEqual(reading(E, piece), read_plain(E, words_of(text)))
                piece, _ = replaced(E, piece, 1234, 300, text[1234:1534])


class StretchTest(Case):
    def test_examples(self):
        piece, _ = built(E, "not a + (bc * d)")
        for a, b, expected in ((0, 16, ("", -1, (-1, 2, 0, 7, 5, 7, 5, 2))), (0, 5, ("", -1, (-1, 0))),
                               (9, 15, ("", -1, (1, -1, 1))), (10, 15, ("", -1, (1, -1, 1))),
                               (1, 3, ("", -1, (-1,))), (1, 5, ("have", 1, ())), (4, 4, ("end", 0, ())),
                               (0, 0, ("end", 0, ())), (16, 16, ("end", 0, ())), (3, 4, ("end", 0, ())),
                               (8, 16, ("", -1, (4, 2, 4, 2, -1))), (8, 15, ("open", 0, ())),
                               (9, 16, ("close", 3, ())), (6, 16, ("want", 0, ())), (0, 7, ("end", 3, ()))):
            self.assertEqual(stretch(E, piece, a, b), expected, (a, b))

    def test_none(self):
        self.assertEqual(stretch(E, None, 0, 0), ("end", 0, ()))
        self.refused(BadPlace, 1, stretch, E, None, 1, 1)
        self.refused(BadPlace, 1, stretch, E, None, 0, 1)

    def test_all_stretches(self):
        draw = random.Random(92)
        for _ in range(40):
            language = drawn_language(draw) if draw.random() < 0.6 else E
            piece, text = draw.choice([pair for pair in edited_pieces(draw, language, 12) if len(pair[1]) < 40])
            for a in range(len(text) + 1):
                for b in range(a, len(text) + 1):
                    self.assertEqual(stretch(language, piece, a, b), read_plain(language, words_of(text[a:b])))

    def test_wrong_places(self):
        piece, _ = built(E, EXAMPLE)
        for a in (-1, 10, 4000, True, False, None, "1", 1.0, ()):
            self.refused(BadPlace, a, stretch, E, piece, a, 9)
            self.refused(BadPlace, a, stretch, E, piece, a, -5)
        for b in (-1, 0, 3, 10, True, False, None, "5", 5.0, ()):
            self.refused(BadPlace, b, stretch, E, piece, 4, b)
        self.refused(BadPlace, 10, stretch, E, piece, 10, 11)
        self.refused(BadPlace, 8, stretch, E, piece, 9, 8)

    def test_by_name(self):
        self.assertEqual(stretch(b=1, a=0, piece=built(E, EXAMPLE)[0], language=E), ("", -1, (-1,)))

    def test_long(self):
        text = "(" * 1999 + "a" + ")" * 1999
        piece, _ = built(E, text)
        for a in range(0, 2000, 97):
            self.assertEqual(stretch(E, piece, a, len(text) - a), read_plain(E, words_of(text[a:len(text) - a])))
