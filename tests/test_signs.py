import random

from anyhalf.errors import BadText, TooMany
from anyhalf.signs import spans_of, words_of
from tests.common import Case

NAMES = "abcdefghijklmnopqrstuvwxyz0123456789"
MARKS = "!#$&*+-./:<=>?@^_|~"
ALL = NAMES + MARKS + "()[]{}" + " \n"


class SignsTest(Case):
    def test_words(self):
        self.assertEqual(words_of("ab + c"), ("ab", "+", "c"))
        self.assertEqual(words_of("ab+c"), ("ab", "+", "c"))
        self.assertEqual(words_of("a1 2b"), ("a1", "2b"))
        self.assertEqual(words_of("-!a--(("), ("-!", "a", "--", "(", "("))
        self.assertEqual(words_of("[](){}"), ("[", "]", "(", ")", "{", "}"))
        self.assertEqual(words_of("\na\n \nb\n"), ("a", "b"))

    def test_no_words(self):
        self.assertEqual(words_of(""), ())
        self.assertEqual(words_of(" \n "), ())
        self.assertEqual(spans_of(""), ())
        self.assertEqual(spans_of(" "), ())

    def test_spans(self):
        self.assertEqual(spans_of(" ab+ (c\n"), ((1, 3), (3, 4), (5, 6), (6, 7)))
        self.assertEqual(spans_of("a b"), ((0, 1), (2, 3)))

    def test_all_signs_of_a_kind_are_one_word(self):
        self.assertEqual(words_of(NAMES), (NAMES,))
        self.assertEqual(words_of(MARKS), (MARKS,))
        self.assertEqual(spans_of(MARKS + NAMES), ((0, 19), (19, 55)))

    def test_drawn_texts(self):
        draw = random.Random(1)
        for _ in range(300):
            text = "".join(draw.choice(ALL) for _ in range(draw.randint(0, 20)))
            spans = spans_of(text)
            self.assertEqual(words_of(text), tuple(text[a:b] for a, b in spans))
            self.assertEqual("".join(words_of(text)), text.replace(" ", "").replace("\n", ""))
            for word in words_of(text):
                one_kind = all(s in NAMES for s in word) or all(s in MARKS for s in word)
                self.assertTrue(one_kind or (len(word) == 1 and word in "()[]{}"))
            for (_, b), (c, _) in zip(spans, spans[1:]):
                pair = text[b - 1] + text[c]
                glued = all(s in NAMES for s in pair) or all(s in MARKS for s in pair)
                self.assertFalse(b == c and glued)

    def test_bad_signs(self):
        for function in (words_of, spans_of):
            for sign in ("A", "Z", "%", "\t", "\r", ",", ";", "'", "\"", "`", "\\", "\u00e9", "\u00b2", "\u0663", "\x00"):
                self.refused(BadText, 0, function, sign)
                self.refused(BadText, 3, function, "a +" + sign + "%")
                self.refused(BadText, 2, function, "ab" + sign)

    def test_lengths(self):
        for function in (words_of, spans_of):
            self.assertEqual(len(function("a " * 2000)), 2000)
            self.assertEqual(len(function("(" * 4000)), 4000)
            self.refused(TooMany, 4001, function, "a" * 4001)
            self.refused(TooMany, 4001, function, "A" * 4001)
            self.refused(BadText, 3999, function, "a" * 3999 + "A")

    def test_by_name(self):
        self.assertEqual(words_of(text="a b"), ("a", "b"))
        self.assertEqual(spans_of(text="a b"), ((0, 1), (2, 3)))
