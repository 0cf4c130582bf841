"""Outlines of halves and their decided links ([10] to [14])."""

import random

from anyhalf.halves import empty_half
from anyhalf.joins import joined
from anyhalf.languages import made_language
from anyhalf.outlines import decided, outline
from anyhalf.plainread import read_plain
from anyhalf.rolesof import roles_along
from tests.common import (E, Case, all_halves, bent, deep_brackets, drawn_language, drawn_words, good_words,
                          grown_words, half_by_middles, half_from_left, half_from_right, half_in_order, split)
from tests.wordbyword import WordByWord, told_side

EXAMPLES = {
    ("* b + c *", True): ((), ((0, 0), (2, -1)), ((2, 2), (4, 4)), -1, -1, True),
    ("+ b ) * c ^", True): ((), ((0, 0), (2, 2), (3, -1)), ((3, 3), (5, 5)), -1, -1, True),
    ("* not - b", True): ((), ((0, -1),), ((0, 1), (2, 2)), -1, 3, False),
    ("! ^ b", True): ((), ((0, -1),), ((1, 1),), -1, 2, False),
    ("- a - b - c", True): ((), ((0, -1),), ((4, 4),), -1, 5, False),
    ("+ a < b < c )", True): (("clash", 4), ((0, -1), (2, -1)), (), -1, -1, False),
    ("a * b + c", False): ((), ((1, 1), (3, -1)), ((3, 3),), 0, 4, False),
    ("a ^ b ^", False): ((), ((1, -1),), ((1, 3),), 0, -1, True),
    ("x", False): ((), (), (), -1, 0, False),
    ("", False): ((), (), (), -1, -1, True),
    ("", True): ((), (), (), -1, -1, False),
    # Worked out by the rules of [10] to [13].
    ("a ! !", False): ((), ((1, 2),), (), 0, 2, False),
    (") ]", True): ((), ((0, 0), (1, 1)), (), -1, 1, False),
    ("( [", False): ((), (), ((0, 0), (1, 1)), -1, -1, True),
    ("not ( - a", False): ((), (), ((0, 0), (1, 1), (2, 2)), -1, 3, False),
    ("+ b ) ! ++", True): (("word", 4), ((0, -1), (2, -1), (3, -1)), (), -1, -1, False),
    ("! a", True): (("have", 1), ((0, -1),), (), -1, -1, False),
    ("a + )", False): (("want", 2), ((1, -1),), (), -1, -1, False),
    ("( a ]", False): (("close", 2), (), (), -1, -1, False),
    ("+ a", False): (("want", 0), (), (), -1, -1, False),
}


def with_drawn(many, seed):
    """Languages with phrases, half of them bent, and a part from a drawn word on."""
    draw = random.Random(seed)
    for _ in range(many):
        language = drawn_language(draw) if draw.random() < 0.6 else E
        if draw.random() < 0.5:
            words = drawn_words(draw, language, draw.randint(0, 16), draw.choice((0, 0.03)))
        else:
            words = grown_words(draw, language, draw.randint(1, 16))
        if draw.random() < 0.4:
            words = bent(draw, language, words)
        yield draw, language, words[draw.choice((0, draw.randint(0, len(words)))):]


def levels_in_stretches(language, roles, words, brackets):
    """The levels of the words, one list for each stretch between the brackets among them."""
    stretches = [[]]
    for word in words:
        if roles[word][0] == brackets:
            stretches.append([])
        else:
            stretches[-1].append(language.rows[roles[word][1]][2])
    return stretches


def roles_from(language, words, have):
    """The roles of words from this state on, up to the first fault."""
    reader = WordByWord(language, have)
    reader.outline(words)
    return reader.roles


class OutlinesTest(Case):
    def test_examples(self):
        draw = random.Random(17)
        for (text, have), expected in EXAMPLES.items():
            for _ in range(5):
                self.assertEqual(outline(half_in_order(draw, E, split(text)), have), expected, text)

    def test_examples_of_links(self):
        for text, have, expected in (("* b + c *", True, ((1, 0), (3, 4))), ("a ^ b ^", False, ((2, 3), (3, 1))),
                                     ("", False, ()), ("", True, ()), ("x", False, ()), ("a x", False, ()),
                                     ("( a )", False, ((0, 2), (1, 2))), ("a + b )", False, ((2, 1),)),
                                     ("+ a < b < c )", True, ())):
            for half in all_halves(E, split(text)) if text else [empty_half(E)]:
                self.assertEqual(decided(half, have), expected, text)

    def test_by_name(self):
        half = half_from_left(E, split("a ^ b ^"))
        self.assertEqual(outline(have=False, half=half), outline(half, False))
        self.assertEqual(decided(have=False, half=half), ((2, 3), (3, 1)))

    def test_drawn_in_drawn_orders(self):
        kinds = {}
        for draw, language, words in with_drawn(3000, 18):
            half = half_in_order(draw, language, words, draw.randint(0, 3))
            for have in (False, True):
                expected, links = told_side(language, words, have)
                self.assertEqual(outline(half, have), expected, (words, have))
                self.assertEqual(decided(half, have), links, (words, have))
                kind = expected[0][0] if expected[0] else ""
                kinds[kind] = kinds.get(kind, 0) + 1
        self.assertEqual(sorted(kinds), ["", "clash", "close", "have", "want", "word"])
        self.assertGreater(min(kinds.values()), 60)

    def test_drawn_in_every_order(self):
        for draw, language, words in with_drawn(300, 19):
            words = words[:6]
            sides = [told_side(language, words, have) for have in (False, True)]
            for half in all_halves(language, words) if words else [empty_half(language)]:
                for have in (False, True):
                    self.assertEqual((outline(half, have), decided(half, have)), sides[have], words)

    def test_fault_tells_takes_alone(self):
        many = 0
        for draw, language, words in with_drawn(1500, 20):
            half = half_in_order(draw, language, words)
            for have in (False, True):
                fault, takes, waits, start, done, wanted = outline(half, have)
                if fault:
                    many += len(takes)
                    self.assertTrue(all(last == -1 and first < fault[1] for first, last in takes))
                    self.assertEqual((waits, start, done, wanted), ((), -1, -1, False))
                    self.assertEqual(decided(half, have), ())
                    ahead = told_side(language, words[:fault[1]], have)[0]
                    self.assertEqual([take[0] for take in takes], [take[0] for take in ahead[1]])
        self.assertGreater(many, 300)

    def test_levels_and_bounds(self):
        for draw, language, words in with_drawn(1500, 21):
            half = half_in_order(draw, language, words)
            for have in (False, True):
                fault, takes, waits, _, _, _ = outline(half, have)
                roles = roles_from(language, words, have)
                fallen = levels_in_stretches(language, roles, [first for first, _ in takes], "close")
                risen = levels_in_stretches(language, roles, [last for _, last in waits], "open")
                for levels in fallen:
                    self.assertEqual(levels, sorted(set(levels), reverse=True))
                for levels in risen:
                    self.assertEqual(levels, sorted(set(levels)))
                self.assertLessEqual(len(takes), (len(language.levels) + 1) * len(fallen))
                self.assertLessEqual(len(waits), (len(language.levels) + 1) * len(risen))

    def test_long_rows_keep_to_the_bounds(self):
        words = split("- a * b ^ c + ") * 500
        half = half_by_middles(E, ("<",) + words)
        _, takes, waits, _, _, _ = outline(half, True)
        self.assertEqual((takes, len(waits)), (((0, -1),), 2))
        half = half_by_middles(E, split("^ a * b + c") + split("< ( not f") * 400)
        fault, takes, waits, _, _, _ = outline(half, True)
        self.assertEqual((fault, takes, len(waits)), ((), ((0, 0), (2, 2), (4, 4), (6, -1)), 3 * 400))

    def test_which_links_are_told(self):
        for draw, language, words in with_drawn(1000, 22):
            half = half_in_order(draw, language, words)
            for have in (False, True):
                fault, takes, waits, start, done, _ = outline(half, have)
                if not fault:
                    open_ends = {start, done} | {last for _, last in takes} | {first for first, _ in waits}
                    told = [word for word, _ in decided(half, have)]
                    self.assertEqual(told, [at for at in range(len(words)) if at not in open_ends])


class DecidedLinksTest(Case):
    def test_links_of_parts_stand_in_the_whole(self):
        many = 0
        for draw, language, words in with_drawn(1500, 23):
            cut = draw.randint(0, len(words))
            one = half_in_order(draw, language, words[:cut])
            two = half_in_order(draw, language, words[cut:])
            both = joined(language, one, two)
            for have in (False, True):
                told = outline(one, have)
                if told[0] or outline(both, have)[0]:
                    continue
                whole = decided(both, have)
                self.assertLessEqual(set(decided(one, have)), set(whole))
                later = [(word + cut, parent + cut) for word, parent in decided(two, not told[5])]
                self.assertLessEqual(set(later), set(whole))
                many += len(later)
        self.assertGreater(many, 500)

    def test_links_stand_in_every_reading(self):
        draw = random.Random(24)
        many = 0
        for _ in range(1500):
            language = drawn_language(draw) if draw.random() < 0.6 else E
            words = good_words(draw, language, draw.randint(1, 16))
            table = read_plain(language, words)[2]
            begin = draw.randint(0, len(words))
            end = draw.randint(begin, len(words))
            have = begin > 0 and roles_along(language, words)[begin - 1][0] in ("operand", "behind", "close")
            links = decided(half_in_order(draw, language, words[begin:end]), have)
            for word, parent in links:
                self.assertEqual(table[begin + word], begin + parent)
            many += len(links)
        self.assertGreater(many, 800)

    def test_no_more_than_decided(self):
        # Here all words of the language let b hang under * alone, but that is not told.
        language = made_language(("left",), (("*", "between", 1),), (("(", ")"),))
        self.assertEqual(decided(half_from_left(language, split("* b")), True), ())

    def test_deep(self):
        rows = [deep_brackets(1999), ("not",) * 4000, split("^ a " * 2000), ("!",) * 4000, (")",) * 4000,
                ("(",) * 4000, ("-", "(") * 2000, (")", "!") * 2000, split("< ( ") * 2000]
        for words in rows:
            expected = [told_side(E, words, have) for have in (False, True)]
            for way in (half_from_left, half_from_right, half_by_middles):
                half = way(E, words)
                for have in (False, True):
                    self.assertEqual((outline(half, have), decided(half, have)), expected[have])
