"""Languages as texts ([40], [3])."""

import random

from anyhalf.errors import BadLine, BadPair, BadRow
from anyhalf.languages import Language, made_language
from anyhalf.languagetext import language_of, language_text
from tests.common import E, Case, drawn_language, with_reckoning
from tests.wordingmodel import wide_language

E_TEXT = """level left
level none
level left
level left
level right
row not ahead 1
row < between 2
row + between 3
row - between 3
row * between 4
row - ahead 4
row ^ between 5
row ! behind 5
pair ( )
pair [ ]"""
LINES = E_TEXT.split("\n")
SMALL = ["level left", "row + between 1", "pair ( )"]


class LanguageTextTest(Case):
    def bad(self, lines, index):
        self.refused(BadLine, index, language_of, "\n".join(lines))

    def test_there_and_back(self):
        self.assertEqual(language_text(E), E_TEXT)
        self.assertEqual(language_of(E_TEXT), E)
        self.assertIs(type(language_of(E_TEXT)), Language)
        self.assertEqual(language_of("level right\npair } {"), made_language(("right",), (), (("}", "{"),)))

    def test_drawn_languages(self):
        draw = random.Random(341)
        for _ in range(150):
            language = draw.choice((drawn_language, wide_language))(draw)
            text = language_text(language)
            self.assertEqual(language_of(text), language)
            self.assertEqual(language_text(language_of(text)), text)

    def test_a_reckoning_is_not_written(self):
        draw = random.Random(342)
        language = with_reckoning(draw, E, 7)
        self.assertEqual(language_text(language), E_TEXT)
        self.assertIsNone(language_of(language_text(language)).reckoning)

    def test_lines_without_a_form(self):
        for odd in ("", " ", "level", "level ", "level  left", " level left", "level left ", "level left left", "level Left",
                    "level up", "Level left", "level left\r", "level\tleft", "levels left", "side left",
                    "row + between", "row + between 1 1", "row  + between 1", "row + between  1", "row +  between 1",
                    "row + between 1 ", " row + between 1", "pair (", "pair ()", "pair ( ) )", "pair  ( )", "pair ( ) ",
                    "pair", "row", "-", "(", "left"):
            for at in range(len(LINES) + 1):
                self.bad(LINES[:at] + [odd] + LINES[at:], at)
                self.bad(LINES[:at] + [odd], at)
                self.bad(LINES[:at] + [odd, odd, "level"] + LINES[at:], at)

    def test_a_line_end_too_many(self):
        self.bad(LINES + [""], 15)
        self.bad([""] + LINES, 0)
        self.bad(LINES[:3] + [""] + LINES[3:], 3)
        self.refused(BadLine, 0, language_of, "")
        self.refused(BadLine, 0, language_of, "\n")

    def test_sorts_in_another_order(self):
        self.bad(["row + between 1", "level left", "pair ( )"], 0)
        self.bad(["pair ( )"], 0)
        self.bad(["pair ( )", "level left"], 0)
        self.bad(["level left", "row + between 1", "level left", "pair ( )"], 2)
        self.bad(["level left", "pair ( )", "level left"], 2)
        self.bad(["level left", "pair ( )", "row + between 1"], 2)
        self.bad(["level left", "row + between 1", "pair ( )", "row - between 1", "level left"], 3)
        self.bad(["row + between 0", "level left"], 0)

    def test_rows_that_made_language_refuses(self):
        for odd in ("row + between 2", "row + between 0", "row + between 01", "row + between -1", "row + between 1.",
                    "row + between +1", "row + between one", "row + between 10000", "row + between 00001", "row + beside 1",
                    "row + Between 1", "row A between 1", "row a+ between 1", "row ( between 1", "row ; between 1",
                    "row abcdefghijklm between 1", "row +++++++++++++ ahead 1", "row \u00e4 ahead 1",
                    "row + between \u00b2", "row + between \u0661", "row + 1 between"):
            self.bad(["level left", odd, "pair ( )"], 1)
            self.bad(["level left", "row - ahead 1", odd, odd, "level"], 2)
        for odd in ("row - ahead 1", "row * between 1", "row * behind 1", "row ! behind 1", "row ! between 1"):
            self.bad(["level left", "row - ahead 1", "row * between 1", "row ! behind 1", odd, "pair ( )"], 4)
        text = "level left\nrow - ahead 1\nrow * between 1\nrow - between 1\nrow * ahead 1\npair ( )"
        self.assertEqual(language_text(language_of(text)), text)

    def test_pairs_that_made_language_refuses(self):
        for odd in ("pair ( (", "pair a b", "pair < >", "pair (( ))", "pair ( [", "pair [ )", "pair ) [", "pair ( )"):
            self.bad(["level left", "pair ( )", odd], 2)
            self.bad(["level left", "pair ( )", odd, ""], 2)
        self.bad(["level left", "pair ( ("], 1)

    def test_no_pair(self):
        self.bad(["level left"], 1)
        self.bad(LINES[:13], 13)
        self.bad(["level left"] * 24, 24)

    def test_how_many_levels_rows_and_pairs(self):
        levels = ["level none"] * 24
        rows = [f"row {sign}{sign} ahead 24" for sign in "abcdefghijklmnopqrstuvwx"]
        pairs = ["pair ( )", "pair [ ]", "pair { }"]
        self.assertEqual(len(language_of("\n".join(levels + rows + pairs)).rows), 24)
        self.bad(levels + ["level none"] + rows + pairs, 24)
        self.bad(levels + rows + ["row zz ahead 24"] + pairs, 48)
        self.bad(levels + rows + pairs + ["pair ( )"], 51)
        self.bad(levels + ["row a ahead 25"], 24)

    def test_first_of_two_bad_lines(self):
        self.bad(["level left", "row + between 2", "pair ( ("], 1)
        self.bad(["level left", "row + between 1", "pair ( (", "level up"], 2)
        self.bad(["level up", "level left", ""], 0)

    def test_any_line_changed(self):
        draw = random.Random(343)
        refused = 0
        for _ in range(400):
            at = draw.randrange(len(LINES))
            line = list(LINES[at])
            place = draw.randrange(len(line))
            line[place:place + draw.randint(0, 1)] = draw.choice(("", "x", " ", "0", "(", "-", "9"))
            lines = LINES[:at] + ["".join(line)] + LINES[at + 1:]
            try:
                self.assertEqual(language_text(language_of("\n".join(lines))), "\n".join(lines))
            except BadLine as error:
                refused += 1
                self.assertTrue(0 <= error.what < len(lines))
        self.assertTrue(100 < refused < 400, refused)

    def test_made_language_refuses_what_it_did(self):
        self.refused(BadRow, 1, made_language, ("left",), (("+", "ahead", 1), ("+", "ahead", 1)), (("(", ")"),))
        self.refused(BadPair, 1, made_language, ("left",), (), (("(", ")"), ("[", "(")))

    def test_by_name(self):
        self.assertEqual(language_text(language=language_of(text="\n".join(SMALL))), "\n".join(SMALL))
