"""Levels found from lessons ([34], [33], [0.3](f))."""

import random
from itertools import product

from anyhalf.demands import demands
from anyhalf.errors import BadLesson, BadPair, BadRow, TooMany
from anyhalf.languages import Language, made_language
from anyhalf.lessons import taught
from anyhalf.plainread import read_plain
from anyhalf.printed import printed
from anyhalf.rings import ring_right
from tests.common import E, E_PAIRS, Case, drawn_language, drawn_row, split
from tests.lessonmodel import (free_lesson, has_ring, holds, is_ring, language_by_hand, other_levels, read_lesson,
                               roles_rows)
from tests.test_demands import E_ROLES, ODD_VALUES, ONE, OTHER, PAIRS, ROWS
from tests.wordingmodel import wide_language

STAR = (split("a * b + c"), (1, 3, 1, -1, 3))


def steps_of(language, lessons):
    return sorted({step for lesson in lessons for step in demands(roles_rows(language), language.pairs, lesson)})


class TaughtTest(Case):
    def teaches(self, rows, lessons, levels, numbers):
        kind, language = taught(rows, PAIRS, lessons)
        self.assertEqual(kind, "language")
        self.assertIs(type(language), Language)
        levelled = tuple((word, role, level) for (word, role), level in zip(rows, numbers))
        self.assertEqual(language, made_language(levels, levelled, PAIRS))
        for words, table in lessons:
            self.assertEqual(read_plain(language, words), ("", -1, table))

    def test_examples(self):
        self.teaches(ROWS, (ONE,), ("left", "left"), (1, 2))
        kind, paper = taught(ROWS, PAIRS, (ONE, OTHER))
        self.assertEqual(kind, "ring")
        self.assertIn(paper, (((0, 1, 1), (0, 1, 0)), ((0, 1, 0), (0, 1, 1))))
        self.assertIs(ring_right(ROWS, PAIRS, (ONE, OTHER), paper), True)

    def test_no_rows(self):
        self.teaches((), (), ("left",), ())
        self.teaches((), ((("a",), (-1,)), (split("[ a ]"), (2, 2, -1))), ("left",), ())

    def test_no_lessons(self):
        self.teaches(ROWS, (), ("left", "left"), (1, 2))
        self.teaches(E_ROLES, (), ("left",) * 8, tuple(range(1, 9)))
        self.teaches((("not", "ahead"),), (), ("left",), (1,))

    def test_sides(self):
        left = (split("a + b + c"), (1, 3, 1, -1, 3))
        right = (split("a + b + c"), (1, -1, 3, 1, 3))
        self.teaches(ROWS, (left,), ("left", "left"), (1, 2))
        self.teaches(ROWS, (right,), ("right", "left"), (1, 2))
        self.teaches(ROWS, (right, ONE), ("right", "left"), (1, 2))
        kind, paper = taught(ROWS, PAIRS, (left, right))
        self.assertEqual((kind, set(paper)), ("ring", {(0, 0, 1), (0, 0, 0)}))

    def test_a_class_of_two_rows(self):
        # + leads to * and * to +, both by demands of 1: one level with the side left.
        lessons = (OTHER, STAR)
        self.teaches(ROWS, (OTHER,), ("left", "left"), (2, 1))
        self.teaches(ROWS, (STAR,), ("left", "left"), (1, 2))
        self.teaches(ROWS, lessons, ("left",), (1, 1))
        mirrored = (ONE, (split("a * b + c"), (1, -1, 3, 1, 3)))
        self.teaches(ROWS, mirrored, ("right",), (1, 1))
        kind, _ = taught(ROWS, PAIRS, lessons + (ONE,))
        self.assertEqual(kind, "ring")

    def test_the_least_row_is_taken_first(self):
        rows = (("a1", "between"), ("b1", "between"), ("c1", "between"), ("d1", "between"))
        # a1 is above c1, so it comes behind b1 and c1.
        lesson = (split("x a1 y c1 z"), (1, 3, 1, -1, 3))
        self.teaches(rows, (lesson,), ("left",) * 4, (3, 1, 2, 4))
        # c1 and d1 are of one class, whose least row is c1.
        both = (split("x c1 y d1 z"), (1, 3, 1, -1, 3)), (split("x d1 y c1 z"), (1, 3, 1, -1, 3))
        self.teaches(rows, (lesson,) + both, ("left",) * 3, (3, 1, 2, 2))
        # a class is taken by its least row, also where another one of its rows has led to what is taken.
        self.teaches(rows, ((split("x a1 y d1 z"), (1, 3, 1, -1, 3)), (split("x d1 y a1 z"), (1, 3, 1, -1, 3)),
                            (split("x d1 y b1 z"), (1, 3, 1, -1, 3))), ("left",) * 3, (2, 1, 3, 2))

    def test_lessons_out_of_one_language(self):
        draw = random.Random(261)
        for _ in range(250):
            language = draw.choice((drawn_language, drawn_language, wide_language))(draw)
            lessons = tuple(read_lesson(draw, language, draw.randint(1, 20)) for _ in range(draw.randint(0, 8)))
            steps = steps_of(language, lessons)
            kind, found = taught(roles_rows(language), language.pairs, lessons)
            self.assertEqual(kind, "language")
            self.assertEqual(found, language_by_hand(roles_rows(language), language.pairs, steps))
            for words, table in lessons:
                self.assertEqual(read_plain(found, words), ("", -1, table))

    def test_lessons_out_of_two_languages(self):
        draw = random.Random(262)
        seen = {"language": 0, "ring": 0}
        for _ in range(400):
            language = draw.choice((drawn_language, drawn_language, wide_language))(draw)
            both = (language, other_levels(draw, language))
            lessons = tuple(read_lesson(draw, draw.choice(both), draw.randint(1, 20)) for _ in range(draw.randint(1, 8)))
            self.check_taught(language, lessons, seen)
        self.assertTrue(min(seen.values()) > 80, seen)

    def test_free_lessons(self):
        draw = random.Random(263)
        seen = {"language": 0, "ring": 0}
        lengths = {}
        for _ in range(600):
            language = draw.choice((drawn_language, wide_language))(draw)
            lessons = tuple(free_lesson(draw, language, draw.randint(1, 12)) for _ in range(draw.randint(1, 12)))
            found = self.check_taught(language, lessons, seen)
            lengths[found] = lengths.get(found, 0) + 1
        self.assertTrue(min(seen.values()) > 80, seen)
        self.assertGreater(max(lengths), 4)

    def check_taught(self, language, lessons, seen):
        """Check what is taught; tells the length of a ring, 0 for a language."""
        rows = roles_rows(language)
        steps = steps_of(language, lessons)
        kind, found = taught(rows, language.pairs, lessons)
        seen[kind] += 1
        if has_ring(len(rows), steps):
            self.assertEqual(kind, "ring")
            self.assertIs(type(found), tuple)
            self.assertTrue(is_ring(steps, found))
            self.assertIs(ring_right(rows, language.pairs, lessons, found), True)
            return len(found)
        self.assertEqual((kind, found), ("language", language_by_hand(rows, language.pairs, steps)))
        self.assertIsNone(found.reckoning)
        for words, table in lessons:
            self.assertEqual(read_plain(found, words), ("", -1, table))
        return 0

    def test_a_ring_or_a_language_not_both(self):
        draw = random.Random(264)
        seen = {"language": 0, "ring": 0}
        rows = (("+", "between"), ("-", "ahead"), ("!", "behind"))
        every = [made_language(sides, tuple(row + (level,) for row, level in zip(rows, levels)), PAIRS)
                 for sides in product(("left", "right", "none"), repeat=3) for levels in product((1, 2, 3), repeat=3)]
        for _ in range(60):
            lessons = tuple(free_lesson(draw, every[0], 7) for _ in range(draw.randint(1, 4)))
            kind, _ = taught(rows, PAIRS, lessons)
            seen[kind] += 1
            steps = steps_of(every[0], lessons)
            self.assertEqual(kind == "language", any(holds(language, steps) for language in every))
        self.assertTrue(min(seen.values()) > 10, seen)

    def test_a_long_ring(self):
        # Row k is above row k + 1 by one lesson each, and the last one above the first: 24 rows are one class.
        rows = tuple(("w" + sign, "between") for sign in "abcdefghijklmnopqrstuvwx")
        words = [word for word, _ in rows]
        ring = tuple((("x", words[k], "y", words[(k + 1) % 24], "z"), (1, 3, 1, -1, 3)) for k in range(24))
        self.assertEqual(taught(rows, PAIRS, ring)[1].levels, ("left",))
        for t, u in product((0, 7, 23), (0, 1, 12, 22)):
            nought = (("x", words[t], "y", words[u], "z"), (1, -1, 3, 1, 3))
            kind, paper = taught(rows, PAIRS, ring + (nought,))
            self.assertEqual(kind, "ring")
            self.assertTrue(len(paper) <= 50 and ring_right(rows, PAIRS, ring + (nought,), paper))
        chain = ring[:-1]
        self.assertEqual(taught(rows, PAIRS, chain)[1].rows[0], ("wa", "between", 24))

    def test_many_lessons(self):
        for many in (0, 1, 60):
            self.assertEqual(taught(ROWS, PAIRS, (ONE,) * many)[0], "language")
        self.refused(TooMany, 61, taught, ROWS, PAIRS, (ONE,) * 61)
        self.refused(TooMany, 61, taught, ROWS, PAIRS, (None,) * 61)

    def test_long_lessons(self):
        draw = random.Random(265)
        language = wide_language(draw)
        lessons = []
        while len(lessons) < 60:
            words = printed(language, drawn_row(draw, language, draw.randint(1, 150)))
            if len(words) <= 200:
                lessons.append((words, read_plain(language, words)[2]))
        kind, found = taught(roles_rows(language), language.pairs, tuple(lessons))
        self.assertEqual(kind, "language")
        for words, table in lessons:
            self.assertEqual(read_plain(found, words), ("", -1, table))
        words = split("a ^ " * 99 + "b !")
        deep = (words, read_plain(E, words)[2])
        self.assertEqual(taught(E_ROLES, E_PAIRS, (deep,) * 60)[0], "language")

    def test_lessons_that_are_none(self):
        for odd in ODD_VALUES:
            for at in range(3):
                lessons = (ONE, ONE, ONE)
                self.refused(BadLesson, at, taught, ROWS, PAIRS, lessons[:at] + (odd,) + lessons[at + 1:])
            self.refused(BadLesson, 1, taught, ROWS, PAIRS, (ONE, odd, None))
        # They are no lessons also where a ring is in those before them.
        self.refused(BadLesson, 2, taught, ROWS, PAIRS, (ONE, OTHER, (split("a b"), (1, -1))))

    def test_errors_in_order(self):
        many = tuple(("w" + sign, "ahead") for sign in "abcdefghijklmnopqrstuvwxy")
        self.refused(TooMany, 25, taught, many, (), (None,) * 61)
        self.refused(BadRow, 1, taught, (ROWS[0], None), (), (None,) * 61)
        self.refused(BadRow, 0, taught, (("+", "between", 1),), (), ())
        self.refused(TooMany, 0, taught, ROWS, (), (None,) * 61)
        self.refused(BadPair, 0, taught, ROWS, (None,), (None,) * 61)
        self.refused(TooMany, 61, taught, ROWS, PAIRS, (None,) * 61)
        self.refused(BadLesson, 0, taught, ROWS, PAIRS, (None,) * 60)

    def test_by_name(self):
        self.assertEqual(taught(lessons=(), pairs=PAIRS, rows=ROWS)[0], "language")
