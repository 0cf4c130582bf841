"""Books: texts that are edited, with undo and redo ([36])."""

from anyhalf.errors import NothingToRedo, NothingToUndo
from anyhalf.history import History
from anyhalf.parting import replaced
from anyhalf.pieceasks import reading, shape, text_of
from anyhalf.pieces import built


class Book:
    """A language that stays and a text that changes.

    `history` has the piece of the text; `nodes_made` is how many nodes the last
    granted deed made.
    """

    def __init__(self, language, text):
        piece, made = built(language, text)
        self.language = language
        self.history = History(piece)
        self.nodes_made = made

    def put(self, at, gone, text):
        """The gone signs from sign at on give way to the text."""
        piece, made = replaced(self.language, self.history.piece, at, gone, text)
        self.history.check_room()
        self.history.follow(piece)
        self.nodes_made = made

    def undo(self):
        """Take back the last put that stands."""
        if not self.history.past:
            raise NothingToUndo(0)
        self.history.go_back()
        self.nodes_made = 0

    def redo(self):
        """Do the put again that was undone last."""
        if not self.history.undone:
            raise NothingToRedo(0)
        self.history.go_on()
        self.nodes_made = 0

    def text(self):
        """The text."""
        return text_of(self.history.piece)

    def reading(self):
        """The reading of the text."""
        return reading(self.language, self.history.piece)

    def made(self):
        """How many nodes were made by the last granted deed, or at the beginning."""
        return self.nodes_made

    def high(self):
        """The height of the piece, 0 if there is none."""
        return 0 if self.history.piece is None else self.history.piece.high

    def shape(self):
        """A pair (height, how many signs) for each node of the piece."""
        return shape(self.history.piece)


def book_of(language, piece, made):
    """A new book with this piece, which took so many nodes to make."""
    book = Book(language, "")
    book.history = History(piece)
    book.nodes_made = made
    return book
