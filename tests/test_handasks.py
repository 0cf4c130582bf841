"""Questions to hands ([39], [13], [15])."""

import random

from anyhalf.handasks import fault_of_hands, readable, reading_of
from anyhalf.hands import Hands
from anyhalf.outlines import outline
from anyhalf.pieces import built
from anyhalf.places import place_of
from anyhalf.plainread import read_plain
from anyhalf.signs import words_of
from tests.common import E, Case, bent, drawn_language, drawn_text, good_words, parts_of
from tests.wordbyword import told_side


def hand_of_sign(texts, sign):
    """In whose text a sign of the whole is."""
    for hand, text in enumerate(texts):
        if sign < len(text):
            return hand
        sign -= len(text)
    return max([hand for hand, text in enumerate(texts) if text], default=0)


def readable_by_hand(language, texts):
    """By sides of the hands' own words, told word by word."""
    found = []
    have = False
    for text in texts:
        side, _ = told_side(language, words_of(text), have)
        have = not side[5]
        found.append(side[0] == ())
    return tuple(all(found[:hand + 1]) for hand in range(len(texts)))


class HandAsksTest(Case):
    def fault(self, texts, found):
        self.assertEqual(fault_of_hands(Hands(E, texts)), found)

    def read(self, texts, found):
        self.assertEqual(readable(Hands(E, texts)), found)

    def test_example(self):
        hands = Hands(E, ("a + b", "c * d"))
        self.assertEqual(reading_of(hands), ("", -1, (1, -1, 3, 1, 3)))
        self.assertEqual(fault_of_hands(hands), ())
        hands.hand_on(0, -1)
        self.assertEqual(reading_of(hands), ("", -1, (1, -1, 3, 1, 3)))
        self.assertEqual(readable(hands), (True, True))

    def test_words_through_three_hands(self):
        hands = Hands(E, ("a + n", "o", "t b"))
        self.assertEqual(reading_of(hands), read_plain(E, ("a", "+", "not", "b")))
        hands = Hands(E, ("a +", "", "+", "+ b"))
        self.assertEqual(reading_of(hands), ("word", 1, ()))
        self.assertEqual(fault_of_hands(hands), (0, "word", 1, 2))
        self.fault(("a b", "c", "d"), (0, "have", 1, 2))
        self.fault(("a ", "b", "cd"), (1, "have", 1, 2))
        self.fault(("abcdef", "ghijkl", "m"), (0, "word", 0, 0))

    def test_faults(self):
        self.fault(("a", " ", "b"), (2, "have", 1, 2))
        self.fault(("a < b", "\n<", " c"), (1, "clash", 3, 6))
        self.fault(("", "+", "a"), (1, "want", 0, 0))
        self.fault(("[ a", "", " )"), (2, "close", 2, 4))
        self.fault(("a + (", " b", ""), (0, "open", 2, 4))
        self.fault(("", "( ", "(", "a )", ""), (1, "open", 0, 0))

    def test_faults_at_the_end(self):
        self.fault(("a +",), (0, "end", 2, 3))
        self.fault(("a +", "", ""), (0, "end", 2, 3))
        self.fault(("a", " + ", "", ""), (1, "end", 2, 4))
        self.fault(("a + ", " ", "\n", ""), (2, "end", 2, 6))
        self.fault(("", " ", ""), (1, "end", 0, 1))
        self.fault(("",), (0, "end", 0, 0))
        self.fault(("", "", ""), (0, "end", 0, 0))
        self.fault(("a", "", "+"), (2, "end", 2, 2))

    def test_empty_hands(self):
        self.assertEqual(reading_of(Hands(E, ("", "a", "", "+", "b", ""))), ("", -1, (1, -1, 1)))
        self.read(("",), (True,))
        self.read(("", "", "", "a", "", "+", "b", ""), (True,) * 8)
        self.read(("", "a", "", "b", ""), (True, True, True, False, False))
        self.read(("", "+", "", "a"), (True, False, False, False))
        self.read((" ", "\n", "a", " ", "!"), (True,) * 5)
        self.read((" ", "\n", "a", " ", "b"), (True, True, True, True, False))

    def test_readable(self):
        self.read(("a", "+ b", "* c"), (True, True, True))
        self.read(("a +", "+ b"), (True, False))
        self.read(("a + b )", "* c * (", ")", "a"), (True, True, False, False))
        self.read(("a b", "c", ""), (False, False, False))
        self.read(("a < b", "< c < d", "+ e"), (True, False, False))
        self.read(("a < b", "< c", "< d"), (True, True, True))
        self.read(("[ a", ")"), (True, True))
        self.read(("[ a )", "+"), (False, False))
        self.read(("a + n", "ot"), (True, False))
        self.read(("$$", "a"), (False, False))

    def test_drawn_hands(self):
        draw = random.Random(331)
        faults = 0
        for _ in range(500):
            language = drawn_language(draw)
            if draw.random() < 0.5:
                text = drawn_text(draw, language, draw.randint(0, 14))
            else:
                words = good_words(draw, language, 14)
                text = draw.choice((" ", "\n", "  ")).join(draw.choice((words, bent(draw, language, words))))
            texts = tuple(parts_of(draw, text, draw.randint(1, 8)))
            hands = Hands(language, texts)
            kind, number, table = read_plain(language, words_of(text))
            self.assertEqual(reading_of(hands), (kind, number, table))
            self.assertEqual(readable(hands), readable_by_hand(language, texts))
            if kind == "":
                self.assertEqual(fault_of_hands(hands), ())
                continue
            faults += 1
            sign = place_of(built(language, text)[0], number)[0]
            self.assertEqual(fault_of_hands(hands), (hand_of_sign(texts, sign), kind, number, sign))
        self.assertTrue(100 < faults < 400, faults)

    def test_readable_by_the_outlines(self):
        draw = random.Random(332)
        seen = {True: 0, False: 0}
        for _ in range(150):
            language = drawn_language(draw)
            texts = tuple(drawn_text(draw, language, draw.randint(0, 3)) for _ in range(4))
            hands = Hands(language, texts)
            found = readable(hands)
            have = False
            for hand in range(4):
                side = outline(hands.half(hand), have)
                self.assertIs(found[hand], side[0] == ())
                seen[found[hand]] += 1
                if not found[hand]:
                    self.assertEqual(found[hand:], (False,) * (4 - hand))
                    break
                have = not side[5]
        self.assertTrue(min(seen.values()) > 80, seen)

    def test_questions_change_nothing(self):
        hands = Hands(E, ("a + b", "c * d"))
        hands.put(0, 0, 0, "x")
        reading_of(hands)
        fault_of_hands(hands)
        readable(hands)
        hands.undo(0)
        self.assertEqual(hands.whole(), "a + bc * d")

    def test_long_texts(self):
        for text in ("( " * 999 + "a " + ") " * 999, "a + " * 999 + "a  ", "- " * 1999 + "a ", "ab" * 2000, "a ! ! " * 600):
            cut = len(text) // 8
            texts = tuple(text[at * cut:(at + 1) * cut] for at in range(7)) + (text[7 * cut:],)
            hands = Hands(E, texts)
            kind, number, table = read_plain(E, words_of(text))
            self.assertEqual(reading_of(hands), (kind, number, table))
            self.assertEqual(fault_of_hands(hands) == (), kind == "")

    def test_by_name(self):
        hands = Hands(E, ("a",))
        self.assertEqual((reading_of(hands=hands)[0], fault_of_hands(hands=hands), readable(hands=hands)),
                         ("", (), (True,)))
