"""Pieces that change by puts, which can be undone and redone ([36], [38])."""

from anyhalf.errors import TooMany

PUTS_MOST = 300


class History:
    """A piece, those that it was before the puts that stand, and those that it was before they were undone."""

    def __init__(self, piece):
        self.piece = piece
        self.past = []
        self.undone = []

    def check_room(self):
        """Refuse one more put if as many stand as can be."""
        if len(self.past) == PUTS_MOST:
            raise TooMany(PUTS_MOST + 1)

    def follow(self, piece):
        """A put makes this piece; what could be redone is forgotten."""
        self.past.append(self.piece)
        self.undone = []
        self.piece = piece

    def go_back(self):
        """The last put that stands is taken back."""
        self.undone.append(self.piece)
        self.piece = self.past.pop()

    def go_on(self):
        """The put that was undone last is done again."""
        self.past.append(self.piece)
        self.piece = self.undone.pop()
