"""Pieces and how they are built ([18])."""

import random

from anyhalf.errors import BadText, TooMany
from anyhalf.glue import glued
from anyhalf.parting import parted, replaced
from anyhalf.pieces import Piece, built
from tests.common import E, Case, drawn_language, drawn_text
from tests.piecemodel import built_model, check_piece, model_of


class BuiltTest(Case):
    def test_made_and_heights(self):
        for signs, leaves, high in ((1, 1, 0), (2, 1, 0), (7, 1, 0), (8, 1, 0), (9, 2, 1), (16, 2, 1), (17, 3, 2),
                                    (24, 3, 2), (25, 4, 2), (32, 4, 2), (33, 5, 3), (64, 8, 3), (65, 9, 4),
                                    (4000, 500, 9)):
            for sign in "a+ (\n":
                piece, made = built(E, sign * signs)
                self.assertIs(type(piece), Piece)
                self.assertEqual((made, piece.high, piece.signs), (2 * leaves - 1, high, signs))

    def test_no_signs(self):
        self.assertEqual(built(E, ""), (None, 0))

    def test_attributes(self):
        piece, _ = built(E, "ab + cd * ef ^ gh")
        self.assertEqual(model_of(piece), (("ab + cd ", "* ef ^ g"), "h"))
        self.assertEqual((piece.high, piece.signs, piece.text), (2, 17, None))
        self.assertEqual((piece.left.high, piece.left.signs, piece.left.text), (1, 16, None))
        self.assertEqual((piece.right.high, piece.right.signs, piece.right.text), (0, 1, "h"))
        self.assertEqual((piece.right.left, piece.right.right), (None, None))
        check_piece(self, E, piece)

    def test_example(self):
        piece, made = built(E, "a + b * c")
        self.assertEqual((made, piece.high, piece.signs), (3, 1, 9))

    def test_drawn(self):
        draw = random.Random(51)
        for _ in range(60):
            language = drawn_language(draw)
            text = drawn_text(draw, language, draw.randint(0, 30))
            piece, made = built(language, text)
            leaves = (len(text) + 7) // 8
            self.assertEqual(made, max(0, 2 * leaves - 1))
            self.assertEqual(model_of(piece), built_model(text))
            check_piece(self, language, piece)

    def test_wrong_texts(self):
        self.refused(BadText, 9, built, E, "a + b * cA,")
        self.refused(BadText, 0, built, E, "\t")
        self.refused(TooMany, 4001, built, E, "A" * 4001)

    def test_by_name(self):
        self.assertEqual(built(text="abcdefgh+", language=E)[1], 3)

    def test_nothing_in_a_piece_changes(self):
        draw = random.Random(52)
        pieces = [built(E, drawn_text(draw, E, many))[0] for many in (1, 3, 9, 20, 40, 80)]
        before = [model_of(piece) for piece in pieces]
        for _ in range(200):
            one, two = draw.choice(pieces), draw.choice(pieces)
            glued(E, one, two)
            at = draw.randint(0, one.signs)
            parted(E, one, at)
            replaced(E, one, at, draw.randint(0, one.signs - at), "a + (")
        self.assertEqual([model_of(piece) for piece in pieces], before)
        for piece in pieces:
            check_piece(self, E, piece)
