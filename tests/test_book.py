"""Books: a language and a text that is put, undone and redone ([36], [18] to [20])."""

import random

from anyhalf.book import Book
from anyhalf.errors import BadPlace, BadText, NothingToRedo, NothingToUndo, TooMany
from anyhalf.plainread import read_plain
from anyhalf.signs import words_of
from tests.common import E, Case, drawn_language, drawn_text
from tests.piecemodel import built_model, high, replaced_model, text_in
from tests.test_pieceasks import model_shape

ODD = (-1, True, False, None, "1", 1.0, (1,), -10 ** 30)


class Model:
    """A book kept by hand: a list of all pieces that the text has been, and where in it the book stands."""

    def __init__(self, text):
        self.pieces = [built_model(text)]
        self.at = 0
        leaves = (len(text) + 7) // 8
        self.made = max(0, 2 * leaves - 1)

    def put(self, at, gone, text):
        piece, self.made = replaced_model(self.pieces[self.at], at, gone, text)
        self.pieces = self.pieces[:self.at + 1] + [piece]
        self.at += 1

    def step(self, by):
        self.at += by
        self.made = 0

    def text(self):
        return text_in(self.pieces[self.at])


class BookTest(Case):
    def check(self, language, book, model):
        text = model.text()
        piece = model.pieces[model.at]
        self.assertEqual(book.text(), text)
        self.assertEqual(book.reading(), read_plain(language, words_of(text)))
        self.assertEqual(book.shape(), model_shape(piece))
        self.assertEqual(book.high(), 0 if piece is None else high(piece))
        self.assertEqual(book.made(), model.made)

    def told(self, book):
        return (book.text(), book.reading(), book.shape(), book.high(), book.made())

    def test_at_the_beginning(self):
        for text in ("", "a", "abcdefgh", "a + b * c", "a + " * 1000, "\n", "( ( a"):
            self.check(E, Book(E, text), Model(text))
        book = Book(E, "a + b * c")
        self.assertEqual(self.told(book), ("a + b * c", ("", -1, (1, -1, 3, 1, 3)), ((1, 9), (0, 8), (0, 1)), 1, 3))
        self.assertEqual(self.told(Book(E, "")), ("", ("end", 0, ()), (), 0, 0))

    def test_example(self):
        book = Book(E, "a + b * c")
        self.assertIsNone(book.put(9, 0, "!"))
        self.assertEqual((book.text(), book.made(), book.high()), ("a + b * c!", 2, 2))
        self.assertIsNone(book.undo())
        self.assertEqual((book.text(), book.made()), ("a + b * c", 0))
        book.put(4, 1, "cd")
        self.assertEqual((book.text(), book.made(), book.high()), ("a + cd * c", 9, 2))
        book.undo()
        self.assertIsNone(book.redo())
        self.assertEqual((book.text(), book.made(), book.high()), ("a + cd * c", 0, 2))

    def test_drawn_deeds(self):
        draw = random.Random(301)
        for _ in range(60):
            language = drawn_language(draw)
            text = drawn_text(draw, language, draw.randint(0, 12))
            book, model = Book(language, text), Model(text)
            for _ in range(40):
                self.drawn_deed(draw, language, book, model)
                self.check(language, book, model)

    def drawn_deed(self, draw, language, book, model):
        way = draw.random()
        if way < 0.5:
            signs = len(model.text())
            at = draw.randint(0, signs)
            gone = draw.randint(0, min(signs - at, 12))
            text = drawn_text(draw, language, draw.randint(0, 4)).strip(draw.choice(("", " \n")))
            book.put(at, gone, text)
            model.put(at, gone, text)
        elif way < 0.75:
            if model.at > 0:
                book.undo()
                model.step(-1)
            else:
                self.refused(NothingToUndo, 0, book.undo)
        elif model.at < len(model.pieces) - 1:
            book.redo()
            model.step(1)
        else:
            self.refused(NothingToRedo, 0, book.redo)

    def test_a_put_forgets_what_could_be_redone(self):
        book = Book(E, "a")
        for text in ("b", "c", "d"):
            book.put(0, 1, text)
        book.undo()
        book.undo()
        book.put(1, 0, "!")
        self.assertEqual(book.text(), "b!")
        self.refused(NothingToRedo, 0, book.redo)
        book.undo()
        book.redo()
        book.undo()
        book.undo()
        self.assertEqual(book.text(), "a")
        self.refused(NothingToUndo, 0, book.undo)

    def test_a_put_that_changes_no_sign_is_a_put(self):
        book = Book(E, "a")
        book.put(0, 0, "")
        self.assertEqual((book.text(), book.made()), ("a", 0))
        book.put(0, 1, "a")
        book.undo()
        book.undo()
        self.refused(NothingToUndo, 0, book.undo)
        book.redo()
        book.put(1, 0, "")
        self.refused(NothingToRedo, 0, book.redo)

    def test_refused_deeds_change_nothing(self):
        book = Book(E, "a + b * c")
        book.put(9, 0, "!")
        book.put(0, 1, "z")
        book.undo()
        told = self.told(book)
        for at in ODD + (11,):
            self.refused(BadPlace, at, book.put, at, 0, "")
        for gone in ODD + (8,):
            self.refused(BadPlace, gone, book.put, 3, gone, "")
        self.refused(BadText, 1, book.put, 0, 0, "aA")
        self.refused(TooMany, 4001, book.put, 0, 10, " " * 4001)
        self.refused(TooMany, 4001, book.put, 0, 9, " " * 4000)
        self.assertEqual(self.told(book), told)
        book.redo()
        self.assertEqual(book.text(), "z + b * c!")
        self.refused(NothingToRedo, 0, book.redo)
        self.assertEqual((book.text(), book.made()), ("z + b * c!", 0))
        book.undo()
        book.undo()
        self.refused(NothingToUndo, 0, book.undo)
        self.assertEqual(book.text(), "a + b * c")

    def test_refused_undo_keeps_made(self):
        book = Book(E, "a + b * c")
        self.refused(NothingToUndo, 0, book.undo)
        self.refused(NothingToRedo, 0, book.redo)
        self.assertEqual(book.made(), 3)
        book.put(9, 0, "!")
        self.refused(NothingToRedo, 0, book.redo)
        self.assertEqual(book.made(), 2)

    def test_errors_in_order(self):
        book = Book(E, "abc")
        self.refused(BadPlace, 4, book.put, 4, 4, "A")
        self.refused(BadPlace, 2, book.put, 2, 2, "A" * 4001)
        self.refused(TooMany, 4001, book.put, 2, 1, "A" * 4001)
        self.refused(BadText, 3999, book.put, 2, 1, "a" * 3999 + "A")
        self.refused(TooMany, 4002, book.put, 2, 1, "a" * 4000)
        self.refused(BadPlace, None, book.put, None, None, "A")

    def test_300_puts(self):
        book = Book(E, "")
        for many in range(300):
            book.put(many, 0, "ab+"[many % 3])
        text = "ab+" * 100
        told = self.told(book)
        self.refused(TooMany, 301, book.put, 0, 0, "")
        self.refused(TooMany, 301, book.put, 0, 300, "a")
        self.refused(BadPlace, 301, book.put, 301, 0, "")
        self.refused(BadPlace, 301, book.put, 0, 301, "")
        self.refused(BadText, 0, book.put, 0, 0, ";")
        self.refused(TooMany, 4001, book.put, 0, 300, "a" * 4001)
        self.refused(TooMany, 4300, book.put, 0, 0, "a" * 4000)
        self.assertEqual(self.told(book), told)
        self.assertEqual(book.text(), text)
        book.undo()
        book.put(299, 0, "!")
        self.refused(TooMany, 301, book.put, 0, 0, "a")
        for _ in range(300):
            book.undo()
        self.assertEqual(book.text(), "")
        self.refused(NothingToUndo, 0, book.undo)
        for _ in range(300):
            book.redo()
        self.assertEqual(book.text(), text[:-1] + "!")
        self.refused(TooMany, 301, book.put, 0, 0, "a")
        self.refused(NothingToRedo, 0, book.redo)

    def test_emptied(self):
        book = Book(E, "a + b")
        book.put(0, 5, "")
        self.assertEqual(self.told(book), ("", ("end", 0, ()), (), 0, 0))
        book.put(0, 0, "x")
        self.assertEqual(self.told(book), ("x", ("", -1, (-1,)), ((0, 1),), 0, 1))
        book.undo()
        self.assertEqual(book.text(), "")
        self.refused(BadPlace, 1, book.put, 1, 0, "")

    def test_books_stand_alone(self):
        one, two = Book(E, "a"), Book(E, "a")
        one.put(0, 0, "b")
        self.assertEqual((one.text(), two.text()), ("ba", "a"))
        self.refused(NothingToUndo, 0, two.undo)

    def test_errors_of_the_first_text(self):
        self.refused(TooMany, 4001, Book, E, "A" * 4001)
        self.refused(BadText, 2, Book, E, "a\nB")
        self.assertEqual(len(Book(E, " " * 4000).text()), 4000)

    def test_long_texts_with_many_puts(self):
        draw = random.Random(302)
        for text in ("(" * 4000, "a + " * 1000, "- " * 2000, "a ^ " * 1000, "[" * 1999 + "ab" + "]" * 1999):
            book = Book(E, text)
            for _ in range(300):
                at = draw.randint(0, 3990)
                put = "".join(draw.choice("a+(! ") for _ in range(5))
                book.put(at, 5, put)
                text = text[:at] + put + text[at + 5:]
            self.assertEqual(book.text(), text)
            self.assertEqual(book.reading(), read_plain(E, words_of(text)))
            self.assertLessEqual(book.high(), 16)

    def test_by_name(self):
        book = Book(text="a", language=E)
        book.put(text="b", gone=1, at=0)
        self.assertEqual(book.text(), "b")
