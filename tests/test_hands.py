"""Several hands at one text ([38])."""

import random

from anyhalf.errors import BadHand, BadPlace, BadText, NothingToRedo, NothingToUndo, TooMany
from anyhalf.halves import Half
from anyhalf.hands import Hands
from anyhalf.pieceasks import half_of
from anyhalf.pieces import built
from tests.common import E, Case, drawn_language, drawn_text, half_told, parts_of

ODD = (-1, True, False, None, "0", (0,), 10 ** 30, -10 ** 30)


class Model:
    """Hands kept by hand: for each its text, the texts to which it can be undone, and those to which it can be redone."""

    def __init__(self, texts):
        self.hands = [[text, [], []] for text in texts]

    def put(self, hand, at, gone, text):
        now, past, _ = self.hands[hand]
        self.hands[hand] = [now[:at] + text + now[at + gone:], past + [now], []]

    def undo(self, hand):
        now, past, undone = self.hands[hand]
        self.hands[hand] = [past[-1], past[:-1], undone + [now]]

    def redo(self, hand):
        now, past, undone = self.hands[hand]
        self.hands[hand] = [undone[-1], past + [now], undone[:-1]]

    def hand_on(self, hand, many):
        one, two = self.hands[hand][0], self.hands[hand + 1][0]
        cut = len(one) - many
        self.hands[hand:hand + 2] = [[(one + two)[:cut], [], []], [(one + two)[cut:], [], []]]

    def texts(self):
        return [hand[0] for hand in self.hands]


def texts_of(hands, many):
    return [hands.text_of(hand) for hand in range(many)]


class HandsTest(Case):
    def check(self, language, hands, texts):
        self.assertEqual(texts_of(hands, len(texts)), list(texts))
        self.assertEqual(hands.whole(), "".join(texts))
        for hand, text in enumerate(texts):
            half = hands.half(hand)
            self.assertIs(type(half), Half)
            self.assertEqual(half_told(half), half_told(half_of(language, built(language, text)[0])))

    def test_one_to_eight_hands(self):
        for many in range(1, 9):
            texts = tuple("ab"[at % 2] * at for at in range(many))
            self.check(E, Hands(E, texts), texts)
            for hand in ODD + (many, many + 1):
                self.refused(BadHand, hand, Hands(E, texts).text_of, hand)
        self.refused(TooMany, 0, Hands, E, ())
        self.refused(TooMany, 9, Hands, E, ("",) * 9)
        self.refused(TooMany, 9, Hands, E, (None,) * 9)

    def test_texts_that_are_refused(self):
        self.refused(BadText, (0, 0), Hands, E, ("A",))
        self.refused(BadText, (1, 2), Hands, E, ("a", "a\nB", "C"))
        self.refused(TooMany, 4001, Hands, E, ("a", "A" * 4001, "C"))
        self.refused(BadText, (0, 1), Hands, E, ("aA", "a" * 4001))
        for odd in (None, 0, True, (), ("a",)):
            self.refused(BadText, (2, 0), Hands, E, ("a", "b", odd, "A"))
            self.refused(BadText, (1, 0), Hands, E, ("a" * 4000, odd, "a" * 4001))
        self.refused(TooMany, 4001, Hands, E, ("a" * 2000, "b" * 2001))
        self.refused(TooMany, 8000, Hands, E, ("a" * 4000, "b" * 4000))
        self.refused(BadText, (2, 0), Hands, E, ("a" * 4000, "b" * 4000, "A"))
        self.refused(TooMany, 4001, Hands, E, ("a" * 4000, "b" * 4001, "A"))
        self.check(E, Hands(E, ("a" * 2000, "", "b" * 2000)), ("a" * 2000, "", "b" * 2000))

    def test_example(self):
        hands = Hands(E, ("a + b", "c * d"))
        self.assertEqual(hands.whole(), "a + bc * d")
        self.assertIsNone(hands.hand_on(0, -1))
        self.check(E, hands, ("a + bc", " * d"))
        self.assertIsNone(hands.put(1, 1, 1, "+"))
        self.assertIsNone(hands.undo(1))
        self.assertIsNone(hands.redo(1))
        self.check(E, hands, ("a + bc", " + d"))

    def test_drawn_deeds(self):
        draw = random.Random(321)
        for _ in range(50):
            language = drawn_language(draw)
            many = draw.randint(1, 8)
            texts = parts_of(draw, drawn_text(draw, language, draw.randint(0, 20)), many)
            hands, model = Hands(language, tuple(texts)), Model(texts)
            for _ in range(60):
                self.drawn_deed(draw, hands, model, draw.randrange(many))
                self.assertEqual(texts_of(hands, many), model.texts())
            self.check(language, hands, model.texts())

    def drawn_deed(self, draw, hands, model, hand):
        text, past, undone = model.hands[hand]
        way = draw.random()
        if way < 0.5:
            at = draw.randint(0, len(text))
            gone = draw.randint(0, min(len(text) - at, 9))
            new = draw.choice(("", "a", " + ", "(b)", "\n12 "))
            hands.put(hand, at, gone, new)
            model.put(hand, at, gone, new)
        elif way < 0.7:
            if past:
                hands.undo(hand)
                model.undo(hand)
            else:
                self.refused(NothingToUndo, hand, hands.undo, hand)
        elif way < 0.9:
            if undone:
                hands.redo(hand)
                model.redo(hand)
            else:
                self.refused(NothingToRedo, hand, hands.redo, hand)
        elif hand + 1 < len(model.hands):
            on = draw.randint(-len(model.hands[hand + 1][0]), len(text))
            on = max(-3, min(3, on))
            hands.hand_on(hand, on)
            model.hand_on(hand, on)
        else:
            self.refused(BadHand, hand, hands.hand_on, hand, 0)

    def test_each_hand_is_undone_alone(self):
        hands = Hands(E, ("a", "b"))
        hands.put(0, 1, 0, "1")
        hands.put(1, 1, 0, "2")
        hands.put(0, 2, 0, "3")
        hands.undo(0)
        self.check(E, hands, ("a1", "b2"))
        hands.undo(1)
        self.refused(NothingToUndo, 1, hands.undo, 1)
        hands.put(1, 0, 0, "z")
        self.refused(NothingToRedo, 1, hands.redo, 1)
        hands.redo(0)
        self.check(E, hands, ("a13", "zb"))
        hands.undo(0)
        hands.undo(0)
        self.refused(NothingToUndo, 0, hands.undo, 0)
        self.check(E, hands, ("a", "zb"))

    def test_300_puts_of_a_hand(self):
        hands = Hands(E, ("", "x"))
        for many in range(300):
            hands.put(0, many, 0, "a")
        self.refused(TooMany, 301, hands.put, 0, 0, 0, "")
        hands.put(1, 0, 1, "y")
        for many in range(299):
            hands.put(1, 0, 0, "b")
        self.refused(TooMany, 301, hands.put, 1, 0, 0, "b")
        self.check(E, hands, ("a" * 300, "b" * 299 + "y"))
        hands.undo(0)
        hands.put(0, 0, 0, "c")
        self.refused(TooMany, 301, hands.put, 0, 0, 0, "c")
        hands.hand_on(0, 0)
        for hand in (0, 1):
            self.refused(NothingToUndo, hand, hands.undo, hand)
            self.refused(NothingToRedo, hand, hands.redo, hand)
        for _ in range(300):
            hands.put(1, 0, 1, "d")
        self.refused(TooMany, 301, hands.put, 1, 0, 0, "")
        for _ in range(300):
            hands.undo(1)
        self.check(E, hands, ("c" + "a" * 299, "b" * 299 + "y"))
        for _ in range(300):
            hands.redo(1)
        self.check(E, hands, ("c" + "a" * 299, "d" + "b" * 298 + "y"))

    def test_hand_on_at_and_beyond_both_bounds(self):
        for many, texts in ((3, ("", "abcDE")), (2, ("a", "bcDE")), (0, ("abc", "DE")), (-1, ("abcD", "E")),
                            (-2, ("abcDE", ""))):
            hands = Hands(E, ("x", "abc", "de", "y"))
            hands.hand_on(1, many)
            self.check(E, hands, ("x",) + tuple(text.lower() for text in texts) + ("y",))
        hands = Hands(E, ("x", "abc", "de", "y"))
        for many in (4, -3, True, False, None, "1", 10 ** 30, -10 ** 30):
            self.refused(BadPlace, many, hands.hand_on, 1, many)
        for hand in ODD + (3, 4):
            self.refused(BadHand, hand, hands.hand_on, hand, 0)
            self.refused(BadHand, hand, hands.hand_on, hand, 99)
        self.refused(BadHand, 0, Hands(E, ("a",)).hand_on, 0, 0)
        self.check(E, hands, ("x", "abc", "de", "y"))
        hands = Hands(E, ("", ""))
        hands.hand_on(0, 0)
        for many in (1, -1):
            self.refused(BadPlace, many, hands.hand_on, 0, many)

    def test_what_hand_on_forgets(self):
        for many in (1, 0, -1):
            hands = Hands(E, ("a", "b", "c", "d"))
            for hand in range(4):
                hands.put(hand, 0, 0, "1")
                hands.put(hand, 0, 0, "2")
                hands.undo(hand)
            hands.hand_on(1, many)
            self.assertEqual(hands.whole(), "1a1b1c1d")
            for hand in (1, 2):
                self.refused(NothingToUndo, hand, hands.undo, hand)
                self.refused(NothingToRedo, hand, hands.redo, hand)
            for hand in (0, 3):
                hands.redo(hand)
                hands.undo(hand)
                hands.undo(hand)
            self.assertEqual((hands.text_of(0), hands.text_of(3)), ("a", "d"))

    def test_a_refused_hand_on_forgets_nothing(self):
        hands = Hands(E, ("a", "b"))
        hands.put(0, 0, 0, "1")
        hands.put(0, 0, 0, "2")
        hands.undo(0)
        self.refused(BadPlace, 3, hands.hand_on, 0, 3)
        self.refused(BadHand, 1, hands.hand_on, 1, 0)
        hands.redo(0)
        hands.undo(0)
        hands.undo(0)
        self.check(E, hands, ("a", "b"))

    def test_the_whole_at_4000_signs(self):
        hands = Hands(E, ("a" * 2000, "b" * 1999))
        hands.put(0, 0, 0, "a")
        self.refused(TooMany, 4001, hands.put, 0, 0, 0, "a")
        self.refused(TooMany, 4001, hands.put, 1, 0, 0, "b")
        self.refused(TooMany, 4009, hands.put, 1, 5, 1, "b" * 10)
        hands.put(1, 0, 1, "c")
        self.check(E, hands, ("a" * 2001, "c" + "b" * 1998))
        hands.hand_on(0, 2001)
        self.assertEqual(len(hands.whole()), 4000)

    def test_undo_and_redo_that_would_be_too_long(self):
        hands = Hands(E, ("a" * 2000, "b" * 2000))
        hands.put(0, 0, 100, "")
        hands.put(1, 0, 0, "c" * 99)
        self.refused(TooMany, 4099, hands.undo, 0)
        self.check(E, hands, ("a" * 1900, "c" * 99 + "b" * 2000))
        self.refused(TooMany, 4099, hands.undo, 0)
        hands.undo(1)
        hands.undo(0)
        self.refused(TooMany, 4099, hands.redo, 1)
        self.check(E, hands, ("a" * 2000, "b" * 2000))
        self.refused(NothingToUndo, 0, hands.undo, 0)
        hands.redo(0)
        hands.redo(1)
        self.check(E, hands, ("a" * 1900, "c" * 99 + "b" * 2000))

    def test_the_put_in_turn_tells_the_length(self):
        hands = Hands(E, ("a" * 10, ""))
        hands.put(0, 0, 10, "")
        hands.put(0, 0, 0, "b" * 30)
        hands.put(0, 0, 30, "c")
        hands.put(1, 0, 0, " " * 3980)
        self.refused(TooMany, 4010, hands.undo, 0)
        self.check(E, hands, ("c", " " * 3980))
        hands.undo(1)
        for _ in range(3):
            hands.undo(0)
        self.check(E, hands, ("a" * 10, ""))
        hands.put(1, 0, 0, " " * 3985)
        hands.redo(0)
        self.refused(TooMany, 4015, hands.redo, 0)
        self.check(E, hands, ("", " " * 3985))
        hands.undo(1)
        hands.redo(0)
        hands.redo(0)
        self.check(E, hands, ("c", ""))

    def test_a_put_refused_for_its_length_keeps_what_can_be_redone(self):
        hands = Hands(E, ("a", "b" * 3998))
        hands.put(0, 0, 0, "1")
        hands.undo(0)
        self.refused(TooMany, 4001, hands.put, 0, 0, 0, "12")
        hands.redo(0)
        self.assertEqual(hands.text_of(0), "1a")

    def test_errors_of_put_in_order(self):
        hands = Hands(E, ("abc", "d" * 3990))
        for hand in ODD + (2,):
            self.refused(BadHand, hand, hands.put, hand, 99, 99, "A" * 4001)
            self.refused(BadHand, hand, hands.undo, hand)
            self.refused(BadHand, hand, hands.redo, hand)
            self.refused(BadHand, hand, hands.half, hand)
        for at in ODD + (4,):
            self.refused(BadPlace, at, hands.put, 0, at, 99, "A" * 4001)
        for gone in ODD + (2,):
            self.refused(BadPlace, gone, hands.put, 0, 2, gone, "A" * 4001)
        for many in range(300):
            hands.put(0, 0, 0, "")
        self.refused(TooMany, 4001, hands.put, 0, 2, 1, "A" * 4001)
        self.refused(BadText, 10, hands.put, 0, 2, 1, "a" * 10 + "A")
        self.refused(TooMany, 4002, hands.put, 0, 2, 1, "a" * 10)
        self.refused(TooMany, 301, hands.put, 0, 2, 1, "a" * 5)
        hands.put(1, 0, 0, "a" * 7)
        self.refused(TooMany, 4001, hands.put, 1, 0, 0, "a")

    def test_long_texts_with_many_puts(self):
        draw = random.Random(322)
        hands = Hands(E, ("( a + " * 80,) * 8)
        model = Model(("( a + " * 80,) * 8)
        for _ in range(600):
            hand = draw.randrange(8)
            at = draw.randint(0, len(model.texts()[hand]) - 9)
            new = "".join(draw.choice("a+(! ") for _ in range(5))
            hands.put(hand, at, 5, new)
            model.put(hand, at, 5, new)
            if draw.random() < 0.1 and hand < 7:
                hands.hand_on(hand, 3)
                model.hand_on(hand, 3)
        self.check(E, hands, model.texts())

    def test_by_name(self):
        hands = Hands(texts=("a", "b"), language=E)
        hands.put(text="c", gone=0, at=1, hand=0)
        hands.undo(hand=0)
        hands.redo(hand=0)
        hands.hand_on(many=1, hand=0)
        self.assertEqual((hands.text_of(hand=0), hands.text_of(hand=1)), ("a", "cb"))
        hands.half(hand=0)
