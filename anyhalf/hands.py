"""Several hands at one text, each with a text of its own ([38])."""

from anyhalf.checks import SIGNS_MOST, check_many, check_place, check_signs_together, first_bad_sign, is_number_from
from anyhalf.errors import BadHand, BadText, NothingToRedo, NothingToUndo
from anyhalf.glue import glued
from anyhalf.history import History
from anyhalf.parting import check_edit, parted, replaced
from anyhalf.pieceasks import half_of, text_of
from anyhalf.pieces import built, signs_of

HANDS_MOST = 8


class Hands:
    """A language that stays, and a history for each hand, with the piece of its text."""

    def __init__(self, language, texts):
        check_texts(texts)
        self.language = language
        self.histories = []
        for text in texts:
            piece, _ = built(language, text)
            self.histories.append(History(piece))

    def put(self, hand, at, gone, text):
        """In the text of the hand the gone signs from sign at on give way to the text."""
        history = self.history_of(hand)
        check_edit(history.piece, at, gone, text)
        self.check_whole(history.piece, signs_of(history.piece) - gone + len(text))
        history.check_room()
        piece, _ = replaced(self.language, history.piece, at, gone, text)
        history.follow(piece)

    def undo(self, hand):
        """Take back the last put of the hand that stands."""
        history = self.history_of(hand)
        if not history.past:
            raise NothingToUndo(hand)
        self.check_whole(history.piece, signs_of(history.past[-1]))
        history.go_back()

    def redo(self, hand):
        """Do the put of the hand again that was undone last."""
        history = self.history_of(hand)
        if not history.undone:
            raise NothingToRedo(hand)
        self.check_whole(history.piece, signs_of(history.undone[-1]))
        history.go_on()

    def hand_on(self, hand, many):
        """Signs go over from the end of the hand's text to the next hand, or the other way for many below 0."""
        self.check_hand(hand, len(self.histories) - 2)
        one = self.histories[hand].piece
        two = self.histories[hand + 1].piece
        check_place(many, -signs_of(two), signs_of(one))
        both, _ = glued(self.language, one, two)
        one, two, _ = parted(self.language, both, signs_of(one) - many)
        self.histories[hand] = History(one)
        self.histories[hand + 1] = History(two)

    def text_of(self, hand):
        """The text of the hand."""
        return text_of(self.history_of(hand).piece)

    def half(self, hand):
        """The half of the words of the hand's text as it stands alone."""
        return half_of(self.language, self.history_of(hand).piece)

    def whole(self):
        """All texts in a row."""
        return "".join([text_of(history.piece) for history in self.histories])

    def history_of(self, hand):
        """The history of a hand."""
        self.check_hand(hand, len(self.histories) - 1)
        return self.histories[hand]

    def check_hand(self, hand, most):
        """Refuse what is no hand, or one above the most that is let."""
        if not is_number_from(hand, 0, most):
            raise BadHand(hand)

    def check_whole(self, piece, signs):
        """Refuse a whole that would be too long if the piece of a hand came to so many signs."""
        many = sum([signs_of(history.piece) for history in self.histories])
        check_signs_together(many - signs_of(piece) + signs)


def check_texts(texts):
    """Refuse too few or too many hands, a text that is refused, and texts too long together."""
    check_many(texts, 1, HANDS_MOST)
    for hand, text in enumerate(texts):
        if not isinstance(text, str):
            raise BadText((hand, 0))
        check_many(text, 0, SIGNS_MOST)
        bad = first_bad_sign(text)
        if bad >= 0:
            raise BadText((hand, bad))
    check_signs_together(sum([len(text) for text in texts]))
