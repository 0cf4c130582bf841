import random

from anyhalf.errors import BadLevel, BadPair, BadRow, TooMany
from anyhalf.languages import Language, made_language
from tests.common import E, E_LEVELS, E_PAIRS, E_ROWS, Case, with_reckoning

ODD = (None, True, False, 0, 1, "", "a", (), ("a",), ("a", "ahead"), ("a", "ahead", 1, 1), (("a", "ahead", 1),))


class LanguagesTest(Case):
    def levels(self, what, levels, error=BadLevel):
        self.refused(error, what, made_language, levels, (), E_PAIRS)

    def row(self, row, levels=("left", "left")):
        self.refused(BadRow, 0, made_language, levels, (row,), E_PAIRS)
        self.refused(BadRow, 1, made_language, levels, (("q", "behind", 1), row, None), E_PAIRS)

    def pair(self, what, pairs, error=BadPair):
        self.refused(error, what, made_language, ("left",), (), pairs)

    def test_attributes(self):
        self.assertIsInstance(E, Language)
        self.assertEqual((E.levels, E.rows, E.pairs), (E_LEVELS, E_ROWS, E_PAIRS))
        self.assertIsNone(E.reckoning)

    def test_by_name(self):
        self.assertEqual(made_language(pairs=E_PAIRS, levels=E_LEVELS, rows=E_ROWS), E)

    def test_how_many_levels(self):
        made_language(("left",), (), E_PAIRS)
        made_language(("none",) * 24, (), E_PAIRS)
        self.levels(0, (), TooMany)
        self.levels(25, ("left",) * 25, TooMany)
        self.levels(25, (None,) * 25, TooMany)

    def test_bad_levels(self):
        for odd in ODD + ("Left", "lef", ("left",)):
            self.levels(0, (odd,))
            self.levels(2, ("left", "none", odd, None))

    def test_how_many_rows(self):
        rows = tuple((sign * 2, "ahead", 1) for sign in "abcdefghijklmnopqrstuvwxy")
        made_language(("left",), (), E_PAIRS)
        self.assertEqual(made_language(("left",), rows[:24], E_PAIRS).rows, rows[:24])
        self.refused(TooMany, 25, made_language, ("left",), rows, E_PAIRS)
        self.refused(TooMany, 25, made_language, ("left",), (None,) * 25, E_PAIRS)

    def test_row_without_its_form(self):
        for odd in ODD:
            self.row(odd)
            self.row((odd, odd, odd))
        for role in (None, "", "Ahead", "operand", "kept", 1, True, ("ahead",)):
            self.row(("a", role, 1))

    def test_level_of_a_row(self):
        made_language(("left", "left"), (("a", "ahead", 1), ("b", "ahead", 2)), E_PAIRS)
        for level in (0, 3, -1, True, False, None, "1", (1,), 10 ** 30):
            self.row(("a", "ahead", level))

    def test_word_of_a_row(self):
        for word in ("abcdefghijkl", "0123456789ab", "++++++++++++", "!#$&*+-./:<=", ">?@^_|~", "7"):
            made_language(("left",), ((word, "between", 1),), E_PAIRS)
        for word in ("abcdefghijklm", "+" * 13, "", "a+", "+a", "(", ")", "A", "a b", " ", "\n", "%", "\u00e9", None, 1,
                     True, ("a",)):
            self.row((word, "between", 1))

    def test_words_with_two_rows(self):
        for after in ("between", "behind"):
            made_language(("left",), (("-", "ahead", 1), ("-", after, 1)), E_PAIRS)
            made_language(("left",), (("-", after, 1), ("-", "ahead", 1)), E_PAIRS)
        for one, two in (("ahead", "ahead"), ("between", "between"), ("behind", "behind"), ("between", "behind"),
                         ("behind", "between")):
            rows = (("-", one, 1), ("a", "ahead", 1), ("-", two, 2))
            self.refused(BadRow, 2, made_language, ("left", "left"), rows, E_PAIRS)
        rows = (("-", "ahead", 1), ("-", "behind", 1), ("-", "between", 1))
        self.refused(BadRow, 2, made_language, ("left",), rows, E_PAIRS)

    def test_how_many_pairs(self):
        made_language(("left",), (), (("(", ")"),))
        made_language(("left",), (), (("(", ")"), ("{", "}"), ("[", "]")))
        made_language(("left",), (), ((")", "["), ("{", "(")))
        self.pair(0, (), TooMany)
        self.pair(4, (("(", ")"), ("{", "}"), ("[", "]"), ("(", ")")), TooMany)
        self.pair(4, (None,) * 4, TooMany)

    def test_pair_without_its_form(self):
        for odd in ODD + ("()", ("(",), ("(", ")", "("), ("(", None), ("(", True), ("(", "a"), ("+", ")"), ("", ")"),
                          ("()", "["), ("(", ("]",)), ("(", " "), (("(",), ")")):
            self.pair(0, (odd,))
            self.pair(1, (("[", "{"), odd, None))

    def test_sign_twice(self):
        self.pair(0, (("(", "("),))
        self.pair(1, (("(", ")"), ("[", "[")))
        self.pair(1, (("(", ")"), ("(", "]")))
        self.pair(1, (("(", ")"), ("[", ")")))
        self.pair(1, (("(", ")"), (")", "[")))
        self.pair(2, (("(", ")"), ("[", "]"), ("{", "[")))

    def test_order_of_errors(self):
        self.refused(BadLevel, 1, made_language, ("left", "up"), (None,) * 30, ())
        self.refused(TooMany, 30, made_language, ("left",), (None,) * 30, ())
        self.refused(BadRow, 0, made_language, ("left",), (None,), ())
        self.refused(TooMany, 0, made_language, ("left",), (), ())

    def test_equal(self):
        same = made_language(tuple(list(E_LEVELS)), tuple(list(E_ROWS)), tuple(list(E_PAIRS)))
        self.assertTrue(E == same)
        self.assertFalse(E != same)
        self.assertIs(E == same, True)

    def test_unequal(self):
        others = (made_language(E_LEVELS + ("left",), E_ROWS, E_PAIRS), made_language(E_LEVELS, E_ROWS[:7], E_PAIRS),
                  made_language(E_LEVELS, E_ROWS, E_PAIRS[:1]), made_language(E_LEVELS, E_ROWS[::-1], E_PAIRS),
                  made_language(E_LEVELS, E_ROWS, E_PAIRS[::-1]),
                  with_reckoning(random.Random(8), E, 2))
        for other in others:
            self.assertFalse(E == other)
            self.assertTrue(E != other)
        self.assertTrue(others[5] == with_reckoning(random.Random(8), E, 2))

    def test_other_things(self):
        for other in (None, 0, True, "", (), (E_LEVELS, E_ROWS, E_PAIRS), (E_LEVELS, E_ROWS, E_PAIRS, None), [E]):
            self.assertIs(E == other, False)
            self.assertIs(E != other, True)
