"""Rows answered ([40], [36], [37])."""

import random

from anyhalf.book import Book
from anyhalf.bookasks import fault, least_of, missing, place, said_of, stretch_of, table, worth_of
from anyhalf.closetext import close_text
from anyhalf.desk import answer
from anyhalf.errors import (BadLine, BadPlace, BadText, NoReading, NoSuch, NothingToRedo, NothingToUndo, NoWorth, Refused,
                            TooMany)
from anyhalf.saidtext import said_text
from anyhalf.tabletext import table_text
from tests.common import E, Case, drawn_language, drawn_text, with_reckoning
from tests.test_bookasks import COUNTING

WHOLE = ("undo", "redo", "text", "read", "table", "said", "least", "missing", "worth", "shape")


class DeskTest(Case):
    def answers(self, book, row, text):
        found = answer(book, row)
        self.assertIs(type(found), str)
        self.assertEqual(found, text)

    def bad(self, book, row):
        told = (book.text(), book.made(), book.shape())
        self.refused(BadLine, row, answer, book, row)
        self.assertEqual((book.text(), book.made(), book.shape()), told)

    def test_every_row(self):
        book = Book(COUNTING, "a+b*c")
        self.answers(book, "text", "a+b*c")
        self.answers(book, "read", "good")
        self.answers(book, "table", "1 - 3 1 3")
        self.answers(book, "said", "between + operand a between * operand b operand c")
        self.answers(book, "least", "a+b*c")
        self.answers(book, "missing", " .. ")
        self.answers(book, "worth", "3")
        self.answers(book, "shape", "0 5")
        self.answers(book, "stretch 2 5", "good")
        self.answers(book, "stretch 1 3", "want 0")
        self.answers(book, "where 4", "4 0 4")
        self.answers(book, "where 5", "5 0 5")
        self.answers(book, "put 5 0  + a", "ok")
        self.answers(book, "text", "a+b*c + a")
        self.answers(book, "shape", "1 9;0 5;0 4")
        self.answers(book, "worth", "6")
        self.answers(book, "undo", "ok")
        self.answers(book, "text", "a+b*c")
        self.answers(book, "redo", "ok")
        self.answers(book, "text", "a+b*c + a")

    def test_put(self):
        book = Book(E, "abc")
        self.answers(book, "put 1 1", "ok")
        self.assertEqual(book.text(), "ac")
        self.answers(book, "put 0 0", "ok")
        self.assertEqual(book.text(), "ac")
        self.answers(book, "put 2 0 x", "ok")
        self.assertEqual(book.text(), "acx")
        self.answers(book, "put 0 3   ", "ok")
        self.assertEqual(book.text(), "  ")
        self.answers(book, "put 2 0 ;a ;; + b;", "ok")
        self.assertEqual(book.text(), "  \na \n\n + b\n")
        self.answers(book, "text", "  ;a ;; + b;")
        self.answers(book, "put 0 0 0 0 0", "ok")
        self.assertEqual(book.text(), "0 0 0  \na \n\n + b\n")
        for _ in range(6):
            self.answers(book, "undo", "ok")
        self.assertEqual(book.text(), "abc")

    def test_errors_of_put_come_through(self):
        book = Book(E, "abc")
        self.refused(BadPlace, 4, answer, book, "put 4 0")
        self.refused(BadPlace, 2, answer, book, "put 2 2 A")
        self.refused(BadPlace, 9999, answer, book, "put 9999 9999 A")
        self.refused(BadText, 1, answer, book, "put 0 0 aA")
        self.refused(BadText, 2, answer, book, "put 0 0 ;;A")
        self.refused(TooMany, 4001, answer, book, "put 0 3 " + "a" * 4001)
        self.refused(TooMany, 4001, answer, book, "put 0 2 " + ";" * 4000)
        self.refused(NothingToUndo, 0, answer, book, "undo")
        self.refused(NothingToRedo, 0, answer, book, "redo")
        for _ in range(300):
            answer(book, "put 0 0 a")
        self.refused(TooMany, 301, answer, book, "put 0 0 a")
        self.assertEqual(book.text(), "a" * 300 + "abc")

    def test_read(self):
        for text, found in (("a\n$$ b", "word 1 1 0"), ("+", "want 0 0 0"), ("a\n\n  b", "have 1 2 2"),
                            ("a<b<c", "clash 3 0 3"), ("[a)", "close 2 0 2"), ("", "end 0 0 0"), ("a+\n", "end 2 1 0"),
                            ("a+(b", "open 2 0 2"), ("a", "good"), ("(a)", "good")):
            self.answers(Book(E, text), "read", found)

    def test_errors_of_questions_come_through(self):
        book = Book(E, "a b")
        for row in ("table", "said", "least", "missing"):
            self.refused(NoReading, ("have", 1), answer, book, row)
        self.refused(NoWorth, 0, answer, book, "worth")
        self.refused(NoReading, ("have", 1), answer, Book(COUNTING, "a b"), "worth")
        self.refused(BadPlace, 4, answer, book, "stretch 4 4")
        self.refused(BadPlace, 1, answer, book, "stretch 2 1")
        self.refused(BadPlace, 4, answer, book, "stretch 2 4")
        self.refused(NoSuch, 3, answer, book, "where 3")
        self.refused(NoSuch, 9999, answer, book, "where 9999")
        self.answers(book, "where 2", "3 0 3")
        self.answers(book, "stretch 0 3", "have 1")
        self.answers(book, "stretch 3 3", "end 0")

    def test_long_said_rows(self):
        book = Book(E, "- " * 400 + "a")
        self.refused(TooMany, 401, answer, book, "least")
        self.refused(TooMany, 401, answer, book, "said")
        book = Book(E, "- " * 399 + "a")
        self.answers(book, "said", "ahead - " * 399 + "operand a")
        self.answers(Book(E, "a+" * 1999 + "a"), "table",
                     table_text(table(Book(E, "a+" * 1999 + "a"))))

    def test_missing(self):
        self.answers(Book(E, "+ b )"), "missing", "(a .. ")
        self.answers(Book(E, "a * ("), "missing", " .. a)")
        self.answers(Book(E, ""), "missing", " .. a")
        self.answers(Book(E, ") ]"), "missing", "[(a .. ")
        self.answers(Book(E, ") * ["), "missing", "(a .. a]")
        self.answers(Book(E, "(" * 3999), "missing", " .. a" + ")" * 3999)
        self.refused(TooMany, 4001, answer, Book(E, "(" * 4000), "missing")
        self.refused(TooMany, 4001, answer, Book(E, ")" * 4000), "missing")

    def test_worth(self):
        draw = random.Random(381)
        texts = set()
        for _ in range(150):
            language = with_reckoning(draw, drawn_language(draw), 0)
            book = Book(language, "a" if draw.random() < 0.5 else drawn_text(draw, language, 4))
            if fault(book) == ():
                found = worth_of(book)
                texts.add(found)
                self.answers(book, "worth", "none" if found is None else str(found))
        self.assertIn(None, texts)
        self.assertTrue(any(found is not None and found < 0 for found in texts))

    def test_shape(self):
        self.answers(Book(E, ""), "shape", "")
        self.answers(Book(E, "a" * 20), "shape", "2 20;1 16;0 8;0 8;0 4")

    def test_drawn_books(self):
        draw = random.Random(382)
        for _ in range(200):
            language = with_reckoning(draw, drawn_language(draw), 7)
            book = Book(language, drawn_text(draw, language, draw.randint(0, 8)))
            told = fault(book)
            self.answers(book, "text", book.text().replace("\n", ";"))
            self.answers(book, "shape", ";".join(" ".join(map(str, node)) for node in book.shape()))
            self.answers(book, "read", f"{told[0]} {told[1]} {told[3]} {told[4]}" if told else "good")
            self.same(book, "table", lambda: table_text(table(book)))
            self.same(book, "said", lambda: said_text(language, said_of(book)))
            self.same(book, "least", lambda: least_of(book))
            self.same(book, "missing", lambda: " .. ".join(close_text(words) for words in missing(book)))
            self.same(book, "worth", lambda: str(worth_of(book)))
            k, a, b = (draw.randint(0, 20) for _ in range(3))
            self.same(book, f"where {k}", lambda: " ".join(map(str, place(book, k))))
            self.same(book, f"stretch {a} {b}", lambda: "{} {}".format(*stretch_of(book, a, b)).replace(" -1", "") or "good")
            self.deeds(draw, language, book)

    def same(self, book, row, call):
        """The row has the answer, or the error, of the call."""
        try:
            expected = call()
        except Refused as error:
            self.refused(type(error), error.what, answer, book, row)
        else:
            self.answers(book, row, expected)

    def deeds(self, draw, language, book):
        other = Book(language, book.text())
        for _ in range(6):
            signs = len(other.text())
            at = draw.randint(0, signs)
            gone = draw.randint(0, signs - at)
            new = draw.choice(("", "a", " ", "\n", "a\n + b", "  \n\n"))
            self.answers(book, f"put {at} {gone} {new}".replace("\n", ";") if new else f"put {at} {gone}", "ok")
            other.put(at, gone, new)
            self.assertEqual((book.text(), book.shape(), book.made()), (other.text(), other.shape(), other.made()))
        self.answers(book, "undo", "ok")
        other.undo()
        self.assertEqual((book.text(), book.made()), (other.text(), 0))
        self.answers(book, "redo", "ok")
        self.assertEqual(book.made(), 0)

    def test_rows_that_are_none(self):
        book = Book(COUNTING, "a + b")
        rows = ["", " ", "\n", "a", "Text", "TEXT", "help", "put", "put ", "put 0", "put 0 ", "put 0 0 ", "put  0 0",
                "put 0  0", "put 0  0 a", " put 0 0", "put 0 0\n", "put 0 0 a\n", "put 0 0 a\nb", "put\n0 0", "put 00 0",
                "put 0 00", "put 01 0 a", "put -1 0", "put 0 -1", "put a 0", "put 0 a", "put 10000 0", "put 0 10000",
                "put +1 0", "put 1. 0", "put \u00b2 0", "put 0 \u0661", "put 0 0\t", "puts 0 0", "where", "where ", "where 00",
                "where a", "where -1", "where 1 ", "where  1", " where 1", "where 1 1", "where 10000", "where 1\n", "where\n1",
                "where 1 1 1", "where 1 1 1 1", "stretch", "stretch 0", "stretch 0 ", "stretch 0 1 ", "stretch 0  1",
                "stretch  0 1", "stretch 0 1 2", "stretch 0 01", "stretch 00 1", "stretch 0 10000", "stretch 0 -1",
                "stretch a b", "stretch 0 1\n", "ok", "good", "undo;", "text;"]
        for row in WHOLE:
            rows += [row + " ", " " + row, row + "\n", "\n" + row, row + " 0", row + " 0 0", row + " 0 0 a", row.upper(),
                     row[:-1], row + row[-1], row + "\r", row + "  ", row + " " + row]
        for row in rows:
            self.bad(book, row)

    def test_a_row_is_refused_ahead_of_what_it_asks(self):
        empty = Book(E, "")
        for row in ("undo ", "redo\n", "worth ", "table ", "put 5 5 \n", "put 5 5 A\n", "where 7 ", "stretch 7 7 7"):
            self.bad(empty, row)

    def test_by_name(self):
        self.assertEqual(answer(row="text", book=Book(E, "a")), "a")
