"""Said rows as texts ([40], [9])."""

import random

from anyhalf.errors import BadLine, BadSaid, TooMany
from anyhalf.saidtext import said_of_text, said_text
from tests.common import E, Case, drawn_language, drawn_row
from tests.test_saidrows import ODD, ROW
from tests.wordingmodel import chain, wide_language

TEXT = "between + between * operand a ahead not operand b operand c"


class SaidTextTest(Case):
    def test_there_and_back(self):
        self.assertEqual(said_text(E, ROW), TEXT)
        self.assertEqual(said_of_text(E, TEXT), ROW)
        for text in ("operand a", "kept [ operand abcdefghijkl", "behind ! ahead - operand 0", "kept [ kept [ operand x"):
            self.assertEqual(said_text(E, said_of_text(E, text)), text)

    def test_drawn_rows(self):
        draw = random.Random(351)
        for _ in range(200):
            language = drawn_language(draw)
            row = drawn_row(draw, language, draw.randint(1, 30))
            self.assertEqual(said_of_text(language, said_text(language, row)), row)
        for _ in range(5):
            language = wide_language(draw)
            row = chain(draw, language, 400)
            self.assertEqual(said_of_text(language, said_text(language, row)), row)

    def test_texts_that_are_none(self):
        for text in ("", " ", "operand", "operand ", " operand a", "operand a ", "operand  a", "a operand", "operand a\n",
                     "\noperand a", "operand\na", "operand a\noperand b", "operand A", "operand a operand b", "ahead not",
                     "ahead - ahead -", "between + operand a", "between+ operand a operand b", "kept ( operand a",
                     "kept { operand a", "open [ operand a", "operand +", "operand not", "behind - operand a",
                     "Operand a", "operand abcdefghijklm", "operand a operand", "operand\ta", "operand (", "operand \u00e4"):
            self.refused(BadLine, 0, said_of_text, E, text)

    def test_cut_texts(self):
        for at in range(len(TEXT)):
            self.refused(BadLine, 0, said_of_text, E, TEXT[:at])
            self.refused(BadLine, 0, said_of_text, E, TEXT[:at] + " " + TEXT[at:])
            self.refused(BadLine, 0, said_of_text, E, TEXT[:at] + "\n" + TEXT[at + 1:])
        self.refused(BadLine, 0, said_of_text, E, TEXT + " operand a")

    def test_how_many_pairs(self):
        self.assertEqual(len(said_of_text(E, "ahead not " * 399 + "operand a")), 400)
        self.refused(BadLine, 0, said_of_text, E, "ahead not " * 400 + "operand a")
        self.refused(TooMany, 401, said_text, E, (("ahead", "not"),) * 400 + (("operand", "a"),))

    def test_rows_that_are_none(self):
        self.refused(BadSaid, 0, said_text, E, ())
        self.refused(BadSaid, 6, said_text, E, ROW + ROW)
        self.refused(BadSaid, 5, said_text, E, ROW[:5])
        for odd in ODD:
            self.refused(BadSaid, 2, said_text, E, ROW[:2] + (odd,) + ROW[3:])

    def test_by_name(self):
        self.assertEqual(said_text(row=said_of_text(text=TEXT, language=E), language=E), TEXT)
