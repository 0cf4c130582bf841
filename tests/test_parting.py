"""Pieces parted and replaced ([20])."""

import random

from anyhalf.errors import BadPlace, BadText, TooMany
from anyhalf.parting import parted, replaced
from anyhalf.pieces import built
from tests.common import E, Case, drawn_language, drawn_text, parts_of
from tests.piecemodel import check_piece, glued_leaves, model_of, parted_model, replaced_model, text_in

EXAMPLE = "a + b * c"
ODD = (-1, True, False, None, "1", 1.0, (1,), -10 ** 30)


def drawn_piece(draw, language):
    """A piece that was built, or glued of parts of all lengths."""
    text = drawn_text(draw, language, draw.randint(0, 20))
    if draw.random() < 0.4:
        return built(language, text)[0], text
    parts = [part[at:at + 8] for part in parts_of(draw, text, 10) for at in range(0, len(part), 8)]
    return glued_leaves(draw, language, [built(language, part)[0] for part in parts if part]), text


class PartedTest(Case):
    def test_at_the_ends(self):
        for text in ("a", "abcdefgh", EXAMPLE, "a + " * 1000):
            piece, _ = built(E, text)
            ahead, behind, made = parted(E, piece, 0)
            self.assertIs(behind, piece)
            self.assertEqual((ahead, made), (None, 0))
            ahead, behind, made = parted(E, piece, len(text))
            self.assertIs(ahead, piece)
            self.assertEqual((behind, made), (None, 0))

    def test_none(self):
        self.assertEqual(parted(E, None, 0), (None, None, 0))
        for at in (1,) + ODD:
            self.refused(BadPlace, at, parted, E, None, at)

    def test_within_a_leaf(self):
        piece, _ = built(E, "not + b")
        ahead, behind, made = parted(E, piece, 2)
        self.assertEqual((model_of(ahead), model_of(behind), made), ("no", "t + b", 2))

    def test_at_a_seam(self):
        piece, _ = built(E, EXAMPLE)
        ahead, behind, made = parted(E, piece, 8)
        self.assertIs(ahead, piece.left)
        self.assertIs(behind, piece.right)
        self.assertEqual(made, 0)

    def test_in_a_pair(self):
        piece, _ = built(E, EXAMPLE)
        ahead, behind, made = parted(E, piece, 4)
        self.assertEqual((model_of(ahead), model_of(behind), made), ("a + ", ("b * ", "c"), 3))
        piece, _ = built(E, "abcdefghijklmnopqrstuvwx")
        ahead, behind, made = parted(E, piece, 20)
        self.assertEqual((model_of(ahead), model_of(behind), made), ((("abcdefgh", "ijklmnop"), "qrst"), "uvwx", 3))

    def test_deep_and_drawn(self):
        draw = random.Random(71)
        for _ in range(200):
            language = drawn_language(draw) if draw.random() < 0.5 else E
            piece, text = drawn_piece(draw, language)
            at = draw.randint(0, len(text))
            ahead, behind, made = parted(language, piece, at)
            self.assertEqual((model_of(ahead), model_of(behind), made), parted_model(model_of(piece), at))
            self.assertEqual((text_in(model_of(ahead)), text_in(model_of(behind))), (text[:at], text[at:]))
            check_piece(self, language, ahead)
            check_piece(self, language, behind)

    def test_all_places_of_long_texts(self):
        for text in ("(" * 4000, "a" * 4000, "a + " * 1000):
            piece, _ = built(E, text)
            for at in range(1, 4000, 113):
                ahead, behind, made = parted(E, piece, at)
                self.assertEqual((ahead.signs, behind.signs), (at, 4000 - at))
                self.assertLessEqual(made, 60)
                self.assertEqual((model_of(ahead), model_of(behind), made), parted_model(model_of(piece), at))

    def test_wrong_places(self):
        piece, _ = built(E, EXAMPLE)
        for at in (10, 4000, 10 ** 30) + ODD:
            self.refused(BadPlace, at, parted, E, piece, at)

    def test_by_name(self):
        self.assertEqual(parted(at=0, piece=None, language=E), (None, None, 0))


class ReplacedTest(Case):
    def test_examples(self):
        piece, _ = built(E, EXAMPLE)
        for at, gone, text, expected in ((9, 0, "!", 2), (4, 1, "cd", 9)):
            new, made = replaced(E, piece, at, gone, text)
            self.assertEqual((made, new.high), (expected, 2))
            self.assertEqual(text_in(model_of(new)), EXAMPLE[:at] + text + EXAMPLE[at + gone:])
            check_piece(self, E, new)

    def test_nothing_gone_and_nothing_put(self):
        piece, _ = built(E, EXAMPLE)
        for at in (0, 9):
            new, made = replaced(E, piece, at, 0, "")
            self.assertIs(new, piece)
            self.assertEqual(made, 0)
        new, made = replaced(E, piece, 4, 0, "")
        self.assertEqual((model_of(new), made), (("a + ", ("b * ", "c")), 4))

    def test_of_none_and_to_none(self):
        self.assertEqual(replaced(E, None, 0, 0, ""), (None, 0))
        new, made = replaced(E, None, 0, 0, EXAMPLE)
        self.assertEqual((model_of(new), made), (("a + b * ", "c"), 3))
        self.assertEqual(replaced(E, new, 0, 9, ""), (None, 0))

    def test_at_the_ends(self):
        piece, _ = built(E, EXAMPLE)
        for at, gone, text in ((0, 0, "- "), (0, 9, "x"), (0, 3, ""), (9, 0, " !"), (8, 1, ""), (8, 1, "not")):
            new, made = replaced(E, piece, at, gone, text)
            self.assertEqual((model_of(new), made), replaced_model(model_of(piece), at, gone, text))
            check_piece(self, E, new)

    def test_drawn(self):
        draw = random.Random(72)
        for _ in range(120):
            language = drawn_language(draw) if draw.random() < 0.5 else E
            piece, text = drawn_piece(draw, language)
            for _ in range(5):
                at = draw.randint(0, len(text))
                gone = draw.choice((0, draw.randint(0, len(text) - at)))
                put = draw.choice(("", drawn_text(draw, language, draw.randint(0, 6))))
                expected = replaced_model(model_of(piece), at, gone, put)
                piece, made = replaced(language, piece, at, gone, put)
                text = text[:at] + put + text[at + gone:]
                self.assertEqual((model_of(piece), made), expected)
                self.assertEqual(text_in(model_of(piece)), text)
            check_piece(self, language, piece)

    def test_long_texts(self):
        draw = random.Random(73)
        piece, _ = built(E, "a + " * 1000)
        for _ in range(150):
            at = draw.randint(0, 3990)
            piece, made = replaced(E, piece, at, 7, draw.choice(("b * c +", "(((((((", ")  ! ) !", "not not"))[:7])
            self.assertLessEqual(made, 200)
        self.assertEqual(piece.signs, 4000)
        self.assertLessEqual(piece.high, 16)

    def test_wrong_arguments(self):
        piece, _ = built(E, EXAMPLE)
        for at in (10,) + ODD:
            self.refused(BadPlace, at, replaced, E, piece, at, 0, "")
        for gone in (6, 10) + ODD:
            self.refused(BadPlace, gone, replaced, E, piece, 4, gone, "")
        self.refused(BadPlace, 1, replaced, E, piece, 9, 1, "")
        self.refused(BadPlace, 1, replaced, E, None, 0, 1, "")
        self.refused(BadText, 2, replaced, E, piece, 4, 1, "cdE")
        self.refused(TooMany, 4001, replaced, E, piece, 4, 1, "a" * 4001)
        self.refused(TooMany, 4001, replaced, E, piece, 0, 8, "a" * 4000)
        self.refused(TooMany, 4008, replaced, E, piece, 4, 1, "a" * 4000)
        self.assertEqual(replaced(E, piece, 0, 9, "a" * 4000)[0].signs, 4000)
        self.assertEqual(replaced(E, piece, 3, 8 - 3, "a" * 3996)[0].signs, 4000)

    def test_errors_in_order(self):
        piece, _ = built(E, EXAMPLE)
        self.refused(BadPlace, 10, replaced, E, piece, 10, 11, "A" * 4001)
        self.refused(BadPlace, -1, replaced, E, piece, -1, -2, "A")
        self.refused(BadPlace, 11, replaced, E, piece, 9, 11, "A" * 4001)
        self.refused(BadPlace, -1, replaced, E, piece, 9, -1, "A")
        self.refused(TooMany, 4002, replaced, E, piece, 9, 0, "A" * 4002)
        self.refused(BadText, 3999, replaced, E, piece, 9, 0, "a" * 3999 + "A")
        self.refused(TooMany, 4008, replaced, E, piece, 9, 0, "a" * 3999)

    def test_by_name(self):
        piece, _ = built(E, EXAMPLE)
        self.assertEqual(replaced(text="!", gone=0, at=9, piece=piece, language=E)[1], 2)
