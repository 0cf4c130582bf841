"""Pieces glued ([19])."""

import random

from anyhalf.errors import TooMany
from anyhalf.glue import glued
from anyhalf.pieces import built
from tests.common import E, Case, drawn_language, drawn_text, parts_of
from tests.piecemodel import check_piece, glued_leaves, glued_model, high, model_of, text_in


def leaves_of(language, texts):
    return [built(language, text)[0] for text in texts if text]


def of_model(language, model):
    """A piece of the shape of the model, which is glued of parts that differ by at most 1."""
    if isinstance(model, str):
        return built(language, model)[0]
    return glued(language, of_model(language, model[0]), of_model(language, model[1]))[0]


def tall(levels, leaf="a"):
    """The leanest model of this height, with the higher part on the right."""
    if levels == 0:
        return leaf
    return (tall(max(0, levels - 2), leaf), tall(levels - 1, leaf))


def mirrored(model):
    return model if isinstance(model, str) else (mirrored(model[1]), mirrored(model[0]))


class GluedTest(Case):
    def glued_as_told(self, one, two):
        """Glue both models and tell made; all is checked."""
        piece, made = glued(E, of_model(E, one), of_model(E, two))
        self.assertEqual((model_of(piece), made), glued_model(one, two))
        apart = abs(high(one) - high(two))
        self.assertLessEqual(made, 3 * apart + 1)
        self.assertIn(piece.high - max(high(one), high(two)), (0, 1))
        check_piece(self, E, piece)
        return model_of(piece), made

    def test_none(self):
        piece, _ = built(E, "a + b * c")
        self.assertEqual(glued(E, None, None), (None, 0))
        for one, two in ((piece, None), (None, piece)):
            whole, made = glued(E, one, two)
            self.assertIs(whole, piece)
            self.assertEqual(made, 0)

    def test_heights_that_differ_by_at_most_1(self):
        for one, two in (("a", "b"), (("a", "b"), "c"), ("c", ("a", "b")), (("a", "b"), (("c", "d"), "e"))):
            self.assertEqual(self.glued_as_told(one, two), ((one, two), 1))

    def test_first_case(self):
        one = (("a", "b"), "c")
        self.assertEqual(self.glued_as_told(one, "d"), ((("a", "b"), ("c", "d")), 2))
        self.assertEqual(self.glued_as_told("d", mirrored(one)), ((("d", "c"), ("b", "a")), 2))

    def test_second_case(self):
        # t is (("c", "d"), (("e", "f"), "g")).
        one = (("a", "b"), (("c", "d"), ("e", "f")))
        self.assertEqual(self.glued_as_told(one, "g"), (((("a", "b"), ("c", "d")), (("e", "f"), "g")), 4))
        self.assertEqual(self.glued_as_told("g", mirrored(one)), ((("g", ("f", "e")), (("d", "c"), ("b", "a"))), 4))

    def test_third_case(self):
        # t is (("b", "c"), "d").
        one = ("a", ("b", "c"))
        self.assertEqual(self.glued_as_told(one, "d"), ((("a", "b"), ("c", "d")), 4))
        self.assertEqual(self.glued_as_told("d", mirrored(one)), ((("d", "c"), ("b", "a")), 4))

    def test_each_case_stands_in_drawn_ones(self):
        draw = random.Random(61)
        cases = {}
        for _ in range(1500):
            one = model_of(glued_leaves(draw, E, leaves_of(E, ["ab"] * draw.randint(1, 40))))
            two = model_of(glued_leaves(draw, E, leaves_of(E, ["+"] * draw.randint(1, 6))))
            if draw.random() < 0.5:
                one, two = two, one
            case, differ = self.case_of(one, two)
            cases[case] = cases.get(case, 0) + 1
            piece, made = glued(E, of_model(E, one), of_model(E, two))
            self.assertEqual((model_of(piece), made), glued_model(one, two))
            self.assertLessEqual(made, 3 * differ + 1)
            self.assertIn(piece.high - max(high(one), high(two)), (0, 1))
        self.assertEqual(sorted(cases), ["left 1", "left 2", "left 3", "pair", "right 1", "right 2", "right 3"])

    def case_of(self, one, two):
        """Which case of the point this is, and by how much the heights differ."""
        differ = abs(high(one) - high(two))
        if differ <= 1:
            return "pair", differ
        if high(one) > high(two):
            other, near, far = one[0], 0, 1
            t, _ = glued_model(one[1], two)
        else:
            other, near, far = two[1], 1, 0
            t, _ = glued_model(one, two[0])
        side = "right " if high(one) > high(two) else "left "
        if high(t) <= high(other) + 1:
            return side + "1", differ
        return side + ("2" if high(t[near]) <= high(t[far]) else "3"), differ

    def test_leanest_pieces_of_all_heights(self):
        for levels in range(8):
            for other in range(8):
                for one in (tall(levels), mirrored(tall(levels))):
                    for two in (tall(other, "+"), mirrored(tall(other, "+"))):
                        self.glued_as_told(one, two)

    def test_drawn_texts(self):
        draw = random.Random(62)
        for _ in range(150):
            language = drawn_language(draw) if draw.random() < 0.5 else E
            text = drawn_text(draw, language, draw.randint(0, 12))
            parts = [part[at:at + 8] for part in parts_of(draw, text, 8) for at in range(0, len(part), 8)]
            piece = glued_leaves(draw, language, leaves_of(language, parts))
            self.assertEqual(text_in(model_of(piece)), text)
            check_piece(self, language, piece)

    def test_words_over_the_seam(self):
        piece, _ = glued(E, built(E, "a + b")[0], built(E, "c * d")[0])
        check_piece(self, E, piece)
        self.assertEqual(text_in(model_of(piece)), "a + bc * d")

    def test_4000_signs_are_at_most_16_high(self):
        draw = random.Random(63)
        for sign in ("a", "(", " "):
            leaf = built(E, sign)[0]
            piece = None
            for _ in range(4000):
                piece = glued(E, piece, leaf)[0] if draw.random() < 0.5 else glued(E, leaf, piece)[0]
            self.assertEqual(piece.signs, 4000)
            self.assertLessEqual(piece.high, 16)
            self.refused(TooMany, 4001, glued, E, piece, leaf)
            self.refused(TooMany, 4001, glued, E, leaf, piece)
            self.refused(TooMany, 8000, glued, E, piece, piece)
            self.assertIs(glued(E, piece, None)[0], piece)

    def test_too_many(self):
        one, two = built(E, "a" * 2000)[0], built(E, "+" * 2001)[0]
        self.assertEqual(glued(E, one, one)[0].signs, 4000)
        self.refused(TooMany, 4001, glued, E, one, two)
        self.refused(TooMany, 4001, glued, E, two, one)

    def test_too_many_of_both_and_not_of_a_part(self):
        # The higher one's right part and the other one are more than 4000 signs, too.
        leaf = built(E, "(")[0]
        one = leaf
        while one.signs < 2000:
            one = glued(E, one, one if one.signs <= 1000 else leaf)[0]
        one = glued(E, one, one)[0]
        two = built(E, "a" * 2048)[0]
        self.assertGreater(one.high, two.high + 1)
        self.assertGreater(min(one.left.signs, one.right.signs) + 2048, 4000)
        self.refused(TooMany, one.signs + 2048, glued, E, one, two)
        self.refused(TooMany, one.signs + 2048, glued, E, two, one)

    def test_by_name(self):
        one, two = built(E, "a")[0], built(E, "b")[0]
        self.assertEqual(model_of(glued(two=two, one=one, language=E)[0]), ("a", "b"))
