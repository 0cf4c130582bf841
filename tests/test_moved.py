"""Words that move when a text is edited ([21])."""

import random

from anyhalf.errors import BadPlace, BadText, NoReading, TooMany
from anyhalf.moved import moved
from anyhalf.plainread import read_plain
from anyhalf.signs import spans_of, words_of
from tests.common import E, Case, drawn_language, good_words

EXAMPLE = "a + b"
ODD = (-1, True, False, None, "1", 1.0, ())


def by_hand(language, text, at, gone, put):
    """What has moved, by the words of the document: parents are compared as pairs of signs."""
    new = text[:at] + put + text[at + gone:]
    old_spans, new_spans = spans_of(text), spans_of(new)
    old_table, new_table = read_plain(language, words_of(text))[2], read_plain(language, words_of(new))[2]
    told = []
    partner = {}
    for word, (begin, end) in enumerate(old_spans):
        shift = 0 if end <= at else len(put) - gone if begin >= at + gone else None
        if shift is not None and (begin + shift, end + shift) in new_spans:
            partner[word] = new_spans.index((begin + shift, end + shift))
    for word in partner:
        parent, new_parent = old_table[word], new_table[partner[word]]
        both_roots = parent == -1 and new_parent == -1
        if not both_roots and not (parent in partner and partner[parent] == new_parent):
            told.append(word)
    return tuple(told)


class MovedTest(Case):
    def test_examples(self):
        for text, at, gone, put, expected in (
                (EXAMPLE, 5, 0, " * c", (2,)), (EXAMPLE, 2, 1, "+", (0, 2)), (EXAMPLE, 5, 0, "", ()),
                (EXAMPLE, 0, 0, "", ()), (EXAMPLE, 0, 5, "x", ()), (EXAMPLE, 0, 0, "- ", (0,)),
                (EXAMPLE, 0, 0, "not ", (1,)), (EXAMPLE, 2, 1, "*", (0, 2)), (EXAMPLE, 5, 0, "\n", ()),
                (EXAMPLE, 4, 1, "(b)", ()), (EXAMPLE, 4, 0, "(c + d) * ", (2,)), (EXAMPLE, 5, 0, "c", ()),
                ("a + b * c", 5, 4, "", (2,)), ("not a + b", 0, 4, "", (2,)), ("(a)", 0, 0, "not ", (2,)),
                ("a", 0, 0, "b + ", (0,)), ("a", 0, 1, "a", ()), ("[a]", 0, 1, "[", ()), ("[a]", 2, 1, "]", (0, 1)),
                ("a", 1, 0, " !", (0,))):
            self.assertEqual(moved(E, text, at, gone, put), expected, (text, at, gone, put))

    def test_a_word_put_into_does_not_stand(self):
        # ab is cut by the place though nothing is put; so its children do not stand under a word that stands.
        self.assertEqual(moved(E, "ab + c", 1, 0, ""), ())
        self.assertEqual(moved(E, "not a", 1, 0, ""), (1,))
        self.assertEqual(moved(E, "not a", 1, 1, "o"), (1,))

    def test_glued_words_do_not_stand(self):
        self.assertEqual(moved(E, "a + b", 1, 0, "b"), ())
        self.assertEqual(moved(E, "a + b", 4, 0, "b"), ())
        self.assertEqual(moved(E, "a + b", 3, 1, ""), ())
        self.assertEqual(moved(E, "a < - b", 3, 1, " "), ())

    def test_each_place_of_small_texts(self):
        texts = ("a + b", "a+b*c", "- a ^ b", "(a+b)!", "not a\n< b", "[-a] * b", "a - - a", "a < b + c")
        puts = ("", " ", "a", "-", "(", ")", "(a)", " + a", "a * ", "-a+", "!", "b ^ ", "not ")
        good = 0
        for text in texts:
            for at in range(len(text) + 1):
                for gone in range(min(4, len(text) - at) + 1):
                    for put in puts:
                        good += self.compare(E, text, at, gone, put)
        self.assertGreater(good, 700)

    def compare(self, language, text, at, gone, put):
        """Compare with the tables by hand; tells whether the new text is read."""
        kind, number, _ = read_plain(language, words_of(text[:at] + put + text[at + gone:]))
        if kind:
            self.refused(NoReading, (1, kind, number), moved, language, text, at, gone, put)
            return False
        told = moved(language, text, at, gone, put)
        self.assertEqual(told, by_hand(language, text, at, gone, put), (text, at, gone, put))
        return True

    def test_drawn(self):
        draw = random.Random(111)
        good = 0
        for _ in range(1500):
            language = drawn_language(draw) if draw.random() < 0.6 else E
            words = good_words(draw, language, draw.randint(1, 12))
            begins, text = [], ""
            for word in words:
                begins.append(len(text))
                text += word + draw.choice((" ", "\n", "  "))
            at, end = sorted((draw.choice(begins), draw.choice(begins)))
            put = " ".join(good_words(draw, language, draw.randint(1, 5))) + draw.choice((" ", "", " + "))
            good += self.compare(language, text, at, draw.choice((0, end - at)), draw.choice(("", put)))
        self.assertGreater(good, 150)

    def test_no_reading(self):
        self.refused(NoReading, (0, "end", 2), moved, E, "a +", 3, 0, "b")
        self.refused(NoReading, (0, "end", 0), moved, E, "", 0, 0, "a")
        self.refused(NoReading, (1, "end", 0), moved, E, "a", 0, 1, "")
        self.refused(NoReading, (1, "have", 1), moved, E, "a", 1, 0, " a")
        self.refused(NoReading, (1, "clash", 3), moved, E, "a < b", 5, 0, " < c")
        self.refused(NoReading, (0, "have", 1), moved, E, "a b", 3, 0, " +")

    def test_errors_in_order(self):
        long = "A" * 4001
        self.refused(TooMany, 4001, moved, E, long, -1, -1, long)
        self.refused(BadText, 0, moved, E, "A", -1, -1, long)
        self.refused(BadPlace, -1, moved, E, "a +", -1, -2, long)
        self.refused(BadPlace, -2, moved, E, "a +", 0, -2, long)
        self.refused(TooMany, 4001, moved, E, "a +", 0, 0, long)
        self.refused(BadText, 1, moved, E, "a +", 0, 0, "aA" * 2000)
        self.refused(TooMany, 4002, moved, E, "a +", 1, 1, "a" * 4000)
        self.refused(NoReading, (0, "end", 2), moved, E, "a +", 0, 3, "a +")
        self.refused(NoReading, (1, "end", 2), moved, E, "a", 0, 1, "a +")

    def test_wrong_places(self):
        for at in (6,) + ODD:
            self.refused(BadPlace, at, moved, E, EXAMPLE, at, 0, "")
        for gone in (4, 6) + ODD:
            self.refused(BadPlace, gone, moved, E, EXAMPLE, 2, gone, "")
        self.refused(BadPlace, 1, moved, E, EXAMPLE, 5, 1, "")

    def test_4000_signs(self):
        self.assertEqual(moved(E, "a" * 12, 12, 0, " " * 3988), ())
        self.refused(TooMany, 4001, moved, E, "a" * 12, 12, 0, " " * 3989)
        deep = "(" * 1999 + "a" + ")" * 1999
        self.assertEqual(moved(E, deep, 0, 0, "-"), (3998,))

    def test_by_name(self):
        self.assertEqual(moved(put=" * c", gone=0, at=5, text=EXAMPLE, language=E), (2,))
