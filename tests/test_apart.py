import random

from anyhalf.apart import alike, apart
from anyhalf.bonds import bonds
from anyhalf.errors import Unlike
from anyhalf.languages import made_language
from anyhalf.plainread import read_plain
from tests.common import E, E_LEVELS, E_PAIRS, E_ROWS, Case, drawn_language, drawn_words, split

PAIRS = (("(", ")"),)


def language_of(levels, *rows):
    return made_language(levels, rows, PAIRS)


def other_levels(draw, language):
    """A language with the same words and roles and other levels."""
    many = draw.randint(1, 4)
    levels = tuple(draw.choice(("left", "right", "none")) for _ in range(many))
    rows = tuple((row[0], row[1], draw.randint(1, many)) for row in language.rows)
    return made_language(levels, rows, language.pairs)


class ApartTest(Case):
    def told(self, text, one, two):
        self.assertIs(alike(one, two), False)
        self.assertEqual(apart(one, two), text)
        self.assertEqual(apart(two, one), text)
        self.assertNotEqual(read_plain(one, split(text)), read_plain(two, split(text)))

    def test_alike_with_unlike_levels(self):
        one = language_of(("left", "left"), ("+", "between", 1), ("*", "between", 2))
        two = language_of(("right", "left", "none", "left"), ("+", "between", 2), ("*", "between", 4))
        self.assertIs(alike(one, two), True)
        self.assertIsNone(apart(one, two))
        empty = language_of(("left",))
        self.assertIs(alike(empty, language_of(("none", "right"))), True)
        self.assertIsNone(apart(empty, empty))
        ahead = language_of(("left", "none"), ("f", "ahead", 2), ("g", "ahead", 1))
        self.assertIsNone(apart(ahead, language_of(("right",), ("f", "ahead", 1), ("g", "ahead", 1))))

    def test_ahead_and_behind(self):
        rows = (("f", "ahead", 1), ("!", "behind", 1))
        self.told("f a !", language_of(("left",), *rows), language_of(("right",), *rows))
        self.told("f a !", language_of(("left",), *rows), language_of(("none",), *rows))

    def test_ahead_and_between(self):
        rows = (("f", "ahead", 1), ("+", "between", 1))
        self.told("f a + a", language_of(("left", "left"), *rows),
                  language_of(("left", "left"), ("f", "ahead", 1), ("+", "between", 2)))
        self.told("f a +", language_of(("left", "none"), ("f", "ahead", 1), ("+", "between", 2)),
                  language_of(("none",), *rows))

    def test_between_and_behind(self):
        one = language_of(("left", "left"), ("+", "between", 1), ("!", "behind", 2))
        self.told("a + a !", one, language_of(("left", "left"), ("+", "between", 2), ("!", "behind", 1)))
        self.told("a + a !", language_of(("none", "left"), ("+", "between", 1), ("!", "behind", 2)),
                  language_of(("none",), ("+", "between", 1), ("!", "behind", 1)))

    def test_both_between(self):
        row = ("+", "between", 1)
        self.told("a + a + a", language_of(("left",), row), language_of(("right",), row))
        self.told("a + a +", language_of(("left",), row), language_of(("none",), row))
        self.told("a + a +", language_of(("none",), row), language_of(("right",), row))

    def test_first_free_name(self):
        rows = (("a", "ahead", 1), ("b", "between", 1))
        self.told("a c b c", language_of(("left",), *rows), language_of(("right",), *rows))
        names = tuple((sign, "ahead", 1) for sign in "abcdefghijklmnopqrstuvw") + (("!", "behind", 1),)
        self.told("a x !", language_of(("left",), *names), language_of(("right",), *names))
        names = tuple((sign, "ahead", 1) for sign in "acbdefghijklmnopqrstuvwx")
        self.assertIs(alike(language_of(("left",), *names), language_of(("right",), *names)), True)
        names = names[:23] + (("x", "between", 1),)
        self.told("x".join(("y ", " y ", " y")), language_of(("left", "right"), *names[:23], ("x", "between", 2)),
                  language_of(("left", "left"), *names[:23], ("x", "between", 2)))

    def test_fewest_words_then_first(self):
        one = language_of(("left",), ("+", "between", 1), ("f", "ahead", 1), ("!", "behind", 1), ("g", "ahead", 1))
        two = language_of(("right",), ("+", "between", 1), ("f", "ahead", 1), ("!", "behind", 1), ("g", "ahead", 1))
        self.told("f a !", one, two)
        one = language_of(("left",), ("g", "ahead", 1), ("*", "between", 1), ("+", "between", 1))
        two = language_of(("right",), ("g", "ahead", 1), ("*", "between", 1), ("+", "between", 1))
        self.told("g a * a", one, two)
        none = language_of(("none",), ("g", "ahead", 1), ("*", "between", 1), ("+", "between", 1))
        self.told("g a *", one, none)

    def test_drawn_languages_are_read_unlike(self):
        draw = random.Random(2)
        found = {True: 0, False: 0}
        for _ in range(600):
            one = drawn_language(draw)
            two = other_levels(draw, one)
            found[alike(one, two)] += 1
            self.assertEqual(alike(one, two), bonds(one) == bonds(two))
            text = apart(one, two)
            if text is None:
                for _ in range(10):
                    words = drawn_words(draw, one, draw.randint(1, 12))
                    self.assertEqual(read_plain(one, words), read_plain(two, words))
            else:
                self.assertNotEqual(read_plain(one, split(text)), read_plain(two, split(text)))
        self.assertGreater(min(found.values()), 20)

    def test_unlike_words(self):
        for rows in (E_ROWS[:7], E_ROWS[::-1], (("no", "ahead", 1),) + E_ROWS[1:],
                     E_ROWS[:7] + (("!", "between", 5),)):
            other = made_language(E_LEVELS, rows, E_PAIRS)
            for function in (alike, apart):
                self.refused(Unlike, 0, function, E, other)
                self.refused(Unlike, 0, function, other, E)

    def test_unlike_pairs(self):
        for pairs in (E_PAIRS[:1], E_PAIRS[::-1], (("(", "]"), ("[", ")"))):
            for function in (alike, apart):
                self.refused(Unlike, 1, function, E, made_language(E_LEVELS, E_ROWS, pairs))

    def test_words_ahead_of_pairs(self):
        for function in (alike, apart):
            self.refused(Unlike, 0, function, E, made_language(E_LEVELS, E_ROWS[:3], E_PAIRS[:1]))

    def test_by_name(self):
        self.assertIs(alike(one=E, two=E), True)
        self.assertIsNone(apart(two=E, one=E))
