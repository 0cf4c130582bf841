"""What holds of the whole program: alike languages, one reading for each text, depth and limits ([0.3], [0.4])."""

import random

from anyhalf.apart import alike, apart
from anyhalf.book import Book
from anyhalf.bookasks import cut, put_together, stretch_of
from anyhalf.closes import closed
from anyhalf.closetext import close_text
from anyhalf.desk import answer
from anyhalf.errors import Refused, TooMany
from anyhalf.grafts import grafted
from anyhalf.handasks import fault_of_hands, readable, reading_of
from anyhalf.hands import Hands
from anyhalf.judge import table_right
from anyhalf.languages import made_language
from anyhalf.least import brackets_least
from anyhalf.moved import moved
from anyhalf.needless import needless, slimmed
from anyhalf.plainread import read_plain
from anyhalf.printed import full_words, printed
from anyhalf.reckon import reckoned
from anyhalf.saidreads import said
from anyhalf.scrapends import scrap_half
from anyhalf.scrapjoins import joined_scraps
from anyhalf.scraps import made_scrap
from anyhalf.signs import words_of
from anyhalf.tables import root_of
from anyhalf.wraps import wrapped
from tests.common import (E, Case, bent, drawn_language, drawn_row, drawn_text, drawn_words, good_words, half_by_middles,
                          parts_of, split, with_reckoning)
from tests.lessonmodel import other_levels
from tests.wordingmodel import chain, wide_language

ROWS = ("text", "read", "table", "said", "least", "missing", "worth", "shape", "where 2", "stretch 1 4", "put 1 0 a", "undo")


def alike_language(draw, language):
    """A language with the same bonds whose levels, and the sides that do not matter, are others."""
    many = len(language.levels)
    places = sorted(draw.sample(range(1, many + 4), many))
    sides = [draw.choice(("left", "right", "none")) for _ in range(many + 3)]
    for level, place in enumerate(places):
        roles = [role for _, role, on in language.rows if on == level + 1]
        if "between" in roles or len(set(roles)) > 1:
            sides[place - 1] = language.levels[level]
    rows = tuple((word, role, places[level - 1]) for word, role, level in language.rows)
    other = made_language(tuple(sides), rows, language.pairs)
    return reckoned(other, *language.reckoning) if language.reckoning else other


def outcome(call, *args):
    """What a call returns, or the error that it raises."""
    try:
        return call(*args)
    except Refused as error:
        return type(error), error.what


class AlikeTest(Case):
    def same(self, call, language, other, *args):
        self.assertEqual(outcome(call, language, *args), outcome(call, other, *args))

    def test_alike_languages_agree(self):
        draw = random.Random(401)
        unequal = 0
        for _ in range(150):
            language = with_reckoning(draw, drawn_language(draw), draw.choice((0, 9)))
            other = alike_language(draw, language)
            self.assertTrue(alike(language, other))
            unequal += language != other
            words = bent(draw, language, good_words(draw, language, draw.randint(1, 14)))
            row = drawn_row(draw, language, 10)
            for call in (read_plain, needless, slimmed):
                self.same(call, language, other, words)
            for call in (brackets_least, printed, full_words):
                self.same(call, language, other, row)
            for i in range(len(words)):
                self.same(grafted, language, other, words, i, row)
            self.assertEqual(outcome(closed, language, half_by_middles(language, words)) if words else 0,
                             outcome(closed, other, half_by_middles(other, words)) if words else 0)
            table = tuple(draw.randint(-1, len(words) - 1) for _ in words)
            self.same(table_right, language, other, words, table)
            self.check_texts(draw, language, other, close_text(words))
        self.assertGreater(unequal, 100)

    def check_texts(self, draw, language, other, text):
        one, two = Book(language, text), Book(other, text)
        for row in ROWS:
            self.assertEqual(outcome(answer, one, row), outcome(answer, two, row))
        at = draw.randint(0, len(text))
        gone = draw.randint(0, len(text) - at)
        self.same(moved, language, other, text, at, gone, "a")
        texts = tuple(parts_of(draw, text, 4))
        one, two = Hands(language, texts), Hands(other, texts)
        for call in (reading_of, fault_of_hands, readable):
            self.assertEqual(call(one), call(two))
        for hand in range(4):
            self.assertEqual(outcome(wrapped, language, one.half(hand)), outcome(wrapped, other, two.half(hand)))

    def test_others_read_a_text_otherwise(self):
        draw = random.Random(402)
        seen = {True: 0, False: 0}
        for _ in range(400):
            language = drawn_language(draw)
            other = other_levels(draw, language)
            text = apart(language, other)
            seen[text is None] += 1
            if text is not None:
                readings = [read_plain(each, words_of(text)) for each in (language, other)]
                self.assertNotEqual(*readings)
                self.assertNotEqual(*[Book(each, text).reading() for each in (language, other)])
        self.assertTrue(min(seen.values()) > 10, seen)


class OneReadingTest(Case):
    def test_cut_anywhere(self):
        draw = random.Random(403)
        good = 0
        for _ in range(200):
            language = drawn_language(draw)
            if draw.random() < 0.5:
                text = close_text(good_words(draw, language, 25))
            else:
                text = drawn_text(draw, language, draw.randint(0, 14))
            told = read_plain(language, words_of(text))
            good += told[0] == ""
            parts = parts_of(draw, text, draw.randint(1, 8))
            self.assertEqual(reading_of(Hands(language, tuple(parts))), told)
            self.assertEqual(self.of_scraps(draw, language, parts), told)
            self.assertEqual(self.of_books(draw, language, parts), told)
            at = draw.randint(0, len(text))
            one, two = cut(Book(language, text), at)
            self.assertEqual(one.reading(), read_plain(language, words_of(text[:at])))
            self.assertEqual(two.reading(), read_plain(language, words_of(text[at:])))
            self.assertEqual(put_together(one, two).reading(), told)
            self.assertEqual(stretch_of(Book(language, text), at, len(text)), two.reading())
        self.assertTrue(60 < good < 180, good)

    def of_scraps(self, draw, language, parts):
        scraps = [made_scrap(language, part) for part in parts]
        while len(scraps) > 1:
            at = draw.randrange(len(scraps) - 1)
            scraps[at:at + 2] = [joined_scraps(language, scraps[at], scraps[at + 1])]
        return closed(language, scrap_half(language, scraps[0]))

    def of_books(self, draw, language, parts):
        books = [Book(language, part) for part in parts]
        while len(books) > 1:
            at = draw.randrange(len(books) - 1)
            books[at:at + 2] = [put_together(books[at], books[at + 1])]
        return books[0].reading()

    def test_hands_moved_about(self):
        draw = random.Random(404)
        for _ in range(60):
            language = drawn_language(draw)
            text = drawn_text(draw, language, 14)
            hands = Hands(language, tuple(parts_of(draw, text, 5)))
            told = read_plain(language, words_of(text))
            for _ in range(20):
                hand = draw.randrange(4)
                many = draw.randint(-len(hands.text_of(hand + 1)), len(hands.text_of(hand)))
                hands.hand_on(hand, many)
                self.assertEqual(hands.whole(), text)
                self.assertEqual(reading_of(hands), told)

    def test_right_tables(self):
        draw = random.Random(405)
        for _ in range(300):
            language = drawn_language(draw)
            words = drawn_words(draw, language, draw.randint(1, 15), 0.02)
            kind, _, table = read_plain(language, words)
            if kind == "":
                self.assertTrue(table_right(language, words, table))
                row = said(language, words, table)
                self.assertEqual(said(language, *self.read(language, printed(language, row))), row)
                self.assertEqual(said(language, *self.read(language, full_words(language, row))), row)

    def read(self, language, words):
        return words, read_plain(language, words)[2]


class DepthTest(Case):
    def test_deep_texts(self):
        for text in ("(" * 1999 + "a" + ")" * 1999, "[" * 1333 + "-a" + "]" * 1333, "- " * 1999 + "a", "a ^ " * 999 + "a",
                     "a + " * 999 + "a", "a" + " !" * 1999, "not(" * 799 + "a" + ")" * 799, "a+(" * 999 + "a" + ")" * 999):
            book = Book(E, text)
            words = words_of(text)
            self.assertEqual(book.reading(), read_plain(E, words))
            self.assertEqual(answer(book, "read"), "good")
            answer(book, "table")
            table = book.reading()[2]
            pairs = len(said(E, words, table))
            if pairs > 400:
                self.refused(TooMany, pairs, answer, book, "least")
            else:
                self.assertEqual(read_plain(E, words_of(answer(book, "least")))[0], "")
            needless(E, words)
            self.assertEqual(grafted(E, words, root_of(table), (("operand", "z"),)), ("z",))
            eighth = len(text) // 8 + 1
            hands = Hands(E, tuple(text[at:at + eighth] for at in range(0, len(text), eighth)))
            self.assertEqual(fault_of_hands(hands), ())
            hands.hand_on(0, -eighth)
            self.assertEqual(reading_of(hands), book.reading())

    def test_deep_rows(self):
        draw = random.Random(406)
        for _ in range(10):
            language = wide_language(draw)
            row = chain(draw, language, 400)
            words = full_words(language, row)
            self.assertEqual(slimmed(language, words), printed(language, row))
            needless(language, words)
            self.assertEqual(grafted(language, words, len(words) - 1, row), printed(language, row))

    def test_long_words(self):
        text = "a" * 12 + "+" * 3987 + "b"
        self.assertEqual(Book(E, text).reading(), ("word", 1, ()))
        self.assertEqual(reading_of(Hands(E, (text[:2000], text[2000:]))), ("word", 1, ()))
        self.assertEqual(fault_of_hands(Hands(E, (text[:5], text[5:20], text[20:]))), (1, "word", 1, 12))
        self.assertEqual(close_text(split("a b")), "a b")
