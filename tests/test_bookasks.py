"""Questions to books, and books cut and put together ([37])."""

import random

from anyhalf.book import Book
from anyhalf.bookasks import (cut, fault, least_of, missing, place, put_together, said_of, stretch_of, table, word_at_of,
                              worth_of)
from anyhalf.closetext import close_text
from anyhalf.errors import (BadPlace, NoReading, NoSuch, NothingToRedo, NothingToUndo, NoWorth, TooMany, Unlike)
from anyhalf.languages import made_language
from anyhalf.needless import slimmed
from anyhalf.parting import parted
from anyhalf.pieceasks import half_of
from anyhalf.pieces import built
from anyhalf.places import place_of, word_at
from anyhalf.plainread import read_plain
from anyhalf.plainworth import worth_plain
from anyhalf.reckon import reckoned
from anyhalf.saidreads import said
from anyhalf.signs import words_of
from anyhalf.stretches import stretch
from anyhalf.wraps import wrapped
from tests.common import E, E_LEVELS, E_PAIRS, E_ROWS, Case, drawn_language, drawn_text, good_words, with_reckoning
from tests.piecemodel import glued_model, model_of, parted_model
from tests.test_pieceasks import model_shape

ODD = (-1, True, False, None, "1", (1,), -10 ** 30)
COUNTING = reckoned(E, 10, (("a", 3), ("b", 4), ("c", 5)), 0,
                    ((1, 0), (0, 1, 1, 0), (0, 1, 1, 0), (0, 1, 9, 0), (1, 0, 0, 0), (9, 0), (1, 0, 0, 0), (1, 1)),
                    ((2, 0),))


def edited_book(draw, language, text):
    """A book that comes to this text by some puts."""
    cuts = sorted(draw.randint(0, len(text)) for _ in range(3))
    book = Book(language, text[:cuts[0]] + " " + text[cuts[2]:])
    book.put(cuts[0], 0, text[cuts[1]:cuts[2]])
    book.put(cuts[0], 0, text[cuts[0]:cuts[1]])
    book.put(cuts[2], 1, "")
    return book


class QuestionsTest(Case):
    def test_examples(self):
        book = Book(COUNTING, "a + b * c")
        self.assertEqual(fault(book), ())
        self.assertEqual(table(book), (1, -1, 3, 1, 3))
        self.assertEqual(said_of(book), (("between", "+"), ("operand", "a"), ("between", "*"), ("operand", "b"),
                                         ("operand", "c")))
        self.assertEqual(least_of(book), "a+b*c")
        self.assertEqual(worth_of(book), 3)
        self.assertEqual(missing(book), ((), ()))
        self.assertEqual(stretch_of(book, 4, 9), ("", -1, (1, -1, 1)))
        self.assertEqual(place(book, 4), (8, 0, 8))
        self.assertEqual(word_at_of(book, 8), 4)

    def test_faults_of_every_kind(self):
        for text, found in {
                "a\n$$ b": ("word", 1, 2, 1, 0), "+\na": ("want", 0, 0, 0, 0), "a\n\n  b": ("have", 1, 5, 2, 2),
                "a < b\n < c": ("clash", 3, 7, 1, 1), "[ a\n)": ("close", 2, 4, 1, 0), "a )": ("close", 1, 2, 0, 2),
                "a\n+": ("end", 2, 3, 1, 1), "a +\n": ("end", 2, 4, 1, 0), "a + \n ": ("end", 2, 6, 1, 1),
                "": ("end", 0, 0, 0, 0), "\n\n": ("end", 0, 2, 2, 0), "( a": ("open", 0, 0, 0, 0),
                "a\n+ ( b": ("open", 2, 4, 1, 2), "(\n( a )": ("open", 0, 0, 0, 0)}.items():
            self.assertEqual(fault(Book(E, text)), found, text)

    def test_drawn_texts(self):
        draw = random.Random(311)
        good = 0
        for _ in range(250):
            language = with_reckoning(draw, drawn_language(draw), draw.choice((0, 7)))
            if draw.random() < 0.5:
                text = close_text(good_words(draw, language, 10)).replace("(", "\n( ")
            else:
                text = drawn_text(draw, language, draw.randint(0, 12))
            book = draw.choice((Book, lambda *told: edited_book(draw, *told)))(language, text)
            self.assertEqual(book.text(), text)
            self.check_questions(draw, language, book, text)
            good += fault(book) == ()
        self.assertTrue(80 < good < 200, good)

    def check_questions(self, draw, language, book, text):
        words = words_of(text)
        kind, number, found = read_plain(language, words)
        piece = built(language, text)[0]
        half = half_of(language, piece)
        if kind == "":
            self.assertEqual(fault(book), ())
            self.assertEqual(table(book), found)
            self.assertEqual(said_of(book), said(language, words, found))
            self.assertEqual(least_of(book), close_text(slimmed(language, words)))
            self.assertEqual(worth_of(book), worth_plain(language, words, found))
        else:
            self.assertEqual(fault(book), (kind, number) + place_of(piece, number))
            for call in (table, said_of, least_of, worth_of):
                self.refused(NoReading, (kind, number), call, book)
        try:
            self.assertEqual(missing(book), wrapped(language, half))
        except NoReading as refused:
            self.refused(NoReading, refused.what, wrapped, language, half)
        for k in range(len(words) + 1):
            self.assertEqual(place(book, k), place_of(piece, k))
        for sign in range(len(text)):
            self.assertEqual(word_at_of(book, sign), word_at(piece, sign))
        for _ in range(5):
            a = draw.randint(0, len(text))
            b = draw.randint(a, len(text))
            self.assertEqual(stretch_of(book, a, b), stretch(language, piece, a, b))
            self.assertEqual(stretch_of(book, a, b), read_plain(language, words_of(text[a:b])))

    def test_worth_without_a_reckoning(self):
        for text in ("a", "", "a b"):
            self.refused(NoWorth, 0, worth_of, Book(E, text))
        heights = reckoned(E, 0, (), None, tuple((0, None, None, None) if row[1] == "between" else (0, None)
                                                 for row in E_ROWS), ((0, None),))
        self.assertIsNone(worth_of(Book(heights, "a * b")))
        self.refused(NoReading, ("end", 0), worth_of, Book(heights, ""))

    def test_missing(self):
        self.assertEqual(missing(Book(E, "+ b )")), (("(", "a"), ()))
        self.assertEqual(missing(Book(E, "")), ((), ("a",)))
        self.refused(NoReading, ("have", 1), missing, Book(E, "a b"))

    def test_least_of_long_said_rows(self):
        self.assertEqual(least_of(Book(E, "- " * 399 + "a")), "- " * 398 + "-a")
        self.refused(TooMany, 401, least_of, Book(E, "- " * 400 + "a"))
        self.refused(NoReading, ("end", 401), least_of, Book(E, "- " * 401))
        self.assertEqual(len(said_of(Book(E, "a + " * 999 + "a"))), 1999)

    def test_errors(self):
        book = Book(E, "a + b")
        for k in ODD + (4, 5):
            self.refused(NoSuch, k, place, book, k)
        for sign in ODD + (5, 6):
            self.refused(BadPlace, sign, word_at_of, book, sign)
        self.refused(BadPlace, 0, word_at_of, Book(E, ""), 0)
        for a in ODD + (6,):
            self.refused(BadPlace, a, stretch_of, book, a, None)
        for b in ODD + (6, 2):
            self.refused(BadPlace, b, stretch_of, book, 3, b)
        for at in ODD + (6,):
            self.refused(BadPlace, at, cut, book, at)
        self.refused(BadPlace, 1, cut, Book(E, ""), 1)
        self.assertEqual(book.text(), "a + b")

    def test_by_name(self):
        book = Book(E, "a + b")
        self.assertEqual(stretch_of(b=1, a=0, book=book), ("", -1, (-1,)))
        self.assertEqual(place(k=1, book=book), (2, 0, 2))
        self.assertEqual(word_at_of(sign=2, book=book), 1)
        self.assertEqual([part.text() for part in cut(at=1, book=book)], ["a", " + b"])
        self.assertEqual(put_together(two=book, one=Book(E, "x")).text(), "xa + b")
        for call in (fault, table, said_of, least_of, missing):
            call(book=book)


class CutTest(Case):
    def history(self, text):
        """A book with this text that can undo and redo."""
        book = Book(E, "x")
        book.put(0, 1, text)
        book.put(0, 0, "y")
        book.undo()
        return book

    def check_history(self, book, text):
        """The book is as `history` left it."""
        self.assertEqual((book.text(), book.made()), (text, 0))
        book.redo()
        self.assertEqual(book.text(), "y" + text)
        book.undo()
        book.undo()
        self.assertEqual(book.text(), "x")
        book.redo()

    def check_new(self, book):
        self.assertIs(type(book), Book)
        self.assertEqual(book.language, E)
        self.refused(NothingToUndo, 0, book.undo)
        self.refused(NothingToRedo, 0, book.redo)

    def test_cut_everywhere(self):
        text = "abc + 12 *\n [not b]"
        for at in range(len(text) + 1):
            book = self.history(text)
            shape = book.shape()
            one, two = cut(book, at)
            ahead, behind, made = parted(E, built(E, text)[0], at)
            self.assertEqual((one.text(), two.text()), (text[:at], text[at:]))
            self.assertEqual((one.made(), two.made()), (made, made))
            self.assertEqual((one.shape(), two.shape()), (model_shape(model_of(ahead)), model_shape(model_of(behind))))
            self.check_new(one)
            self.check_new(two)
            self.assertEqual(book.shape(), shape)
            one.put(0, 0, "z")
            two.put(0, 0, "z")
            self.check_history(book, text)

    def test_cut_empty(self):
        one, two = cut(Book(E, ""), 0)
        self.assertEqual((one.text(), two.text(), one.made(), two.made(), one.high()), ("", "", 0, 0, 0))

    def test_put_together(self):
        draw = random.Random(312)
        for _ in range(60):
            text = drawn_text(draw, E, draw.randint(0, 20))
            at = draw.randint(0, len(text))
            one, two = self.history(text[:at]), self.history(text[at:])
            found = put_together(one, two)
            self.check_new(found)
            piece, made = glued_model(model_of(built(E, text[:at])[0]), model_of(built(E, text[at:])[0]))
            self.assertEqual((found.text(), found.made(), found.shape()), (text, made, model_shape(piece)))
            self.assertEqual(found.reading(), read_plain(E, words_of(text)))
            found.put(0, 0, "z")
            self.check_history(one, text[:at])
            self.check_history(two, text[at:])

    def test_a_book_with_itself(self):
        book = Book(E, "ab")
        self.assertEqual(put_together(book, book).text(), "abab")
        self.assertEqual(book.text(), "ab")

    def test_there_and_back(self):
        draw = random.Random(313)
        for _ in range(60):
            language = drawn_language(draw)
            text = drawn_text(draw, language, 20)
            at = draw.randint(0, len(text))
            book = Book(language, text)
            one, two = cut(book, at)
            ahead, behind, _ = parted_model(model_of(built(language, text)[0]), at)
            found = put_together(one, two)
            self.assertEqual(found.made(), glued_model(ahead, behind)[1])
            self.assertEqual((found.text(), found.reading()), (text, book.reading()))

    def test_languages_equal_and_not(self):
        again = made_language(E_LEVELS, E_ROWS, E_PAIRS)
        self.assertEqual(put_together(Book(E, "a"), Book(again, "b")).text(), "ab")
        alike = made_language(("left",) + E_LEVELS, tuple(row[:2] + (row[2] + 1,) for row in E_ROWS), E_PAIRS)
        for other in (COUNTING, alike, made_language(E_LEVELS, E_ROWS, E_PAIRS[:1])):
            self.refused(Unlike, 0, put_together, Book(E, "a"), Book(other, "b"))
            self.refused(Unlike, 0, put_together, Book(other, "a" * 4000), Book(E, "b" * 4000))
        self.assertEqual(worth_of(put_together(Book(COUNTING, "a +"), Book(COUNTING, " b"))), 7)

    def test_too_many_signs(self):
        self.assertEqual(len(put_together(Book(E, "a" * 1999), Book(E, " " * 2001)).text()), 4000)
        self.refused(TooMany, 4001, put_together, Book(E, "a" * 2000), Book(E, " " * 2001))
        self.refused(TooMany, 8000, put_together, Book(E, "a" * 4000), Book(E, " " * 4000))
        self.assertEqual(put_together(Book(E, "a" * 4000), Book(E, "")).made(), 0)
