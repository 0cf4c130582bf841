"""Papers judged ([35], [33], [0.2])."""

import random

from anyhalf.errors import BadLesson, BadPair, BadRow, TooMany
from anyhalf.rings import ring_right
from tests.common import Case, drawn_language, split
from tests.lessonmodel import free_lesson, is_ring, led, roles_rows
from tests.test_demands import ONE, OTHER, PAIRS, ROWS
from tests.test_lessons import STAR, steps_of

RING = ((0, 1, 1), (0, 1, 0))
LESSONS = (ONE, OTHER)
THREE = (("+", "between"), ("*", "between"), ("^", "between"))


def above(one, two):
    """A lesson in which the first word gets the operand between both, 1."""
    return (("a", one, "b", two, "c"), (1, 3, 1, -1, 3))


def below(one, two):
    """One in which the second word gets it, 0."""
    return (("a", one, "b", two, "c"), (1, -1, 3, 1, 3))


class RingTest(Case):
    def judged(self, paper, right, rows=ROWS, lessons=LESSONS):
        self.assertIs(ring_right(rows, PAIRS, lessons, paper), right, paper)

    def test_example(self):
        self.judged(RING, True)
        self.judged(RING[::-1], True)

    def test_steps_that_are_no_demands(self):
        self.judged(RING, False, lessons=(ONE,))
        self.judged(RING, False, lessons=(OTHER,))
        self.judged(RING, False, lessons=())
        self.judged(((1, 0, 1), (1, 0, 0)), False)
        self.judged(((0, 1, 1), (1, 0, 1)), False)
        self.judged(((0, 1, 1), (0, 1, -1)), False)
        self.judged(((0, 0, 1), (0, 0, 0)), False)
        self.judged(((7, 9, 1), (7, 9, 0)), False)
        self.judged(RING, False, rows=(), lessons=())

    def test_two_lessons_share_a_ring(self):
        lessons = (above("+", "*"), above("*", "^"), below("+", "^"))
        ring = ((0, 1, 1), (1, 2, 1), (0, 2, 0))
        for turn in range(3):
            self.judged(ring[turn:] + ring[:turn], True, THREE, lessons)
        self.judged(ring[::-1], False, THREE, lessons)
        for at in range(3):
            self.judged(ring[:at] + ring[at + 1:], False, THREE, lessons)
            t, u, told = ring[at]
            self.judged(ring[:at] + ((t, u, 1 - told),) + ring[at + 1:], False, THREE, lessons)
            self.judged(ring[:at] + ((u, t, told),) + ring[at + 1:], False, THREE, lessons)
            self.judged(ring[:at] + ((u, t, 1 - told),) + ring[at + 1:], False, THREE, lessons)
        self.judged(ring + ring, True, THREE, lessons)
        self.judged(ring + ring[:1], False, THREE, lessons)

    def test_all_of_one_kind(self):
        ones = ((0, 1, 1), (1, 0, 1))
        noughts = ((0, 1, 0), (1, 0, 0))
        all_four = (above("+", "*"), above("*", "+"), below("+", "*"), below("*", "+"))
        self.judged(ones, False, lessons=all_four)
        self.judged(noughts, False, lessons=all_four)
        self.judged(ones + ones, False, lessons=all_four)
        self.judged(noughts[::-1], False, lessons=all_four)
        self.judged(ones + noughts[::-1], True, lessons=all_four)
        self.judged(ones + noughts, False, lessons=all_four)
        self.judged(((0, 1, 1), (1, 0, 0)), False, lessons=all_four)
        self.judged(RING, True, lessons=all_four)

    def test_lengths(self):
        self.judged((), False)
        self.judged(RING[:1], False)
        self.judged(RING * 25, True)
        self.judged(RING * 26, False)
        self.judged(RING + RING[:1], False)
        loops = (above("+", "+"), below("+", "+"))
        self.judged(((0, 0, 1),), False, lessons=loops)
        self.judged(((0, 0, 0),), False, lessons=loops)
        for many in (1, 2, 48, 49, 50):
            self.judged(((0, 0, 1),) * many + ((0, 0, 0),), many < 50, lessons=loops)
        self.judged(((0, 0, 1),) * 50, False, lessons=loops)
        self.judged(((0, 0, 0),) * 50, False, lessons=loops)

    def test_values_of_other_kinds(self):
        deep = RING
        for _ in range(47):
            deep = (deep,)
        for odd in (None, True, False, 0, 1, "", "ring", (), ((),), ((), ()), (RING,), (RING, RING), deep, (deep, deep),
                    ("ring", RING), (None,) * 2, (None,) * 10000, (0, 1), ((0, 1), (0, 1)), ((0, 1, 1, 1), (0, 1, 0, 1))):
            self.judged(odd, False)
        for at in range(2):
            for odd in (None, True, False, 0, "", "010", (), (0,), (0, 1), (0, 1, 1, 0), ("0", "1", "1"), (None, 1, 1),
                        (RING[at],), (0, 1, None), (0, 1, "1"), (0, 1, (1,)), (0, 1, 2), (0, 1, 10 ** 100), deep):
                self.judged(RING[:at] + (odd,) + RING[at + 1:], False)

    def test_truth_values_are_no_numbers(self):
        self.judged(((0, 1, True), (0, 1, 0)), False)
        self.judged(((0, True, 1), (0, 1, 0)), False)
        self.judged(((False, 1, 1), (0, 1, 0)), False)
        self.judged(((0, 1, 1), (0, 1, False)), False)
        self.judged(((0, 1, 1), (False, 1, 0)), False)

    def test_drawn_papers(self):
        draw = random.Random(271)
        right = 0
        for _ in range(300):
            language = drawn_language(draw)
            lessons = tuple(free_lesson(draw, language, 12) for _ in range(6))
            steps = steps_of(language, lessons)
            for _ in range(6 if steps else 0):
                paper = (draw.choice(steps),)
                while len(paper) < 6:
                    nexts = [step for step in steps if led(step)[0] == led(paper[-1])[1]]
                    if not nexts or draw.random() < 0.1:
                        break
                    paper += (draw.choice(nexts),)
                found = is_ring(steps, paper)
                self.assertIs(ring_right(roles_rows(language), language.pairs, lessons, paper), found)
                right += found
        self.assertGreater(right, 100)

    def test_errors_of_the_others(self):
        many = tuple(("w" + sign, "ahead") for sign in "abcdefghijklmnopqrstuvwxy")
        for paper in (None, RING, ()):
            self.refused(TooMany, 25, ring_right, many, (), (None,) * 61, paper)
            self.refused(BadRow, 1, ring_right, (ROWS[0], ("*", "between", 1)), (), (None,) * 61, paper)
            self.refused(TooMany, 0, ring_right, ROWS, (), (None,) * 61, paper)
            self.refused(BadPair, 0, ring_right, ROWS, (None,), (None,) * 61, paper)
            self.refused(TooMany, 61, ring_right, ROWS, PAIRS, (None,) * 61, paper)
            self.refused(BadLesson, 1, ring_right, ROWS, PAIRS, (STAR, None), paper)
            self.refused(BadLesson, 0, ring_right, ROWS, PAIRS, ((split("a b"), (1, -1)),), paper)

    def test_by_name(self):
        self.assertIs(ring_right(paper=RING, lessons=LESSONS, pairs=PAIRS, rows=ROWS), True)
