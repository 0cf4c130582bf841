"""Words closed up ([30], [2])."""

import random

from anyhalf.closetext import close_text
from anyhalf.errors import BadText, BadWord, TooMany
from anyhalf.signs import words_of
from tests.common import Case, split

STOCK = ("a", "zz9", "0", "not", "+", "*-", "_", "|~", "(", ")", "[", "]", "{", "}")


class CloseTextTest(Case):
    def test_words_of_all_kinds_beside_each_other(self):
        for one in STOCK:
            for two in STOCK:
                names = one.isalnum() and two.isalnum()
                marks = one[0] in "+*_|" and two[0] in "+*_|"
                text = one + " " + two if names or marks else one + two
                self.assertEqual(close_text((one, two)), text)
                self.assertEqual(words_of(text), (one, two))

    def test_texts(self):
        self.assertEqual(close_text(()), "")
        self.assertEqual(close_text(("a",)), "a")
        self.assertEqual(close_text(split("a * ( not b ) + c")), "a*(not b)+c")
        self.assertEqual(close_text(split("a - - b")), "a- -b")
        self.assertEqual(close_text(split("( [ a ] )")), "([a])")
        self.assertEqual(close_text(split("a b 1 2")), "a b 1 2")
        self.assertEqual(close_text(split("+ - a b")), "+ -a b")

    def test_words_longer_than_an_operand(self):
        self.assertEqual(close_text(("a" * 50, "+" * 13)), "a" * 50 + "+" * 13)

    def test_leads_back_and_no_shorter_text_does(self):
        draw = random.Random(221)
        for _ in range(300):
            words = tuple(draw.choice(STOCK) for _ in range(draw.randint(0, 30)))
            text = close_text(words)
            self.assertEqual(words_of(text), words)
            self.assertNotIn("\n", text)
            for at, sign in enumerate(text):
                if sign == " ":
                    self.assertNotEqual(words_of(text[:at] + text[at + 1:]), words)

    def test_longer_than_a_text_may_be(self):
        self.assertEqual(close_text(("a",) * 4000), "a " * 3999 + "a")
        self.assertEqual(close_text(("ab",) * 2000), "ab " * 1999 + "ab")
        self.assertEqual(close_text(("a" * 5000, "+")), "a" * 5000 + "+")
        words = ("(", "a", "+") * 1333 + (")",)
        self.assertEqual(words_of(close_text(words)), words)
        self.assertEqual(len(close_text(words)), 4000)

    def test_errors(self):
        self.refused(TooMany, 4001, close_text, ("a",) * 4001)
        self.refused(TooMany, 4001, close_text, ("",) * 4001)
        for word in ("", " ", "a b", "a+", "((", "A", "\n", "a\n", ";", "(a", None, 3, True, ("a",)):
            self.refused(BadWord, 0, close_text, (word,))
            self.refused(BadWord, 2, close_text, ("a", "b", word, "", "c"))

    def test_errors_are_not_those_of_texts(self):
        with self.assertRaises(BadWord):
            try:
                close_text(("ä",))
            except BadText:
                self.fail("a word is refused as a word")

    def test_by_name(self):
        self.assertEqual(close_text(words=("a",)), "a")
