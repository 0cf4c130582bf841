import random

from anyhalf.errors import BadWord, NoSuch, TooMany
from anyhalf.languages import made_language
from anyhalf.plainread import read_plain
from anyhalf.rolesof import role_of
from anyhalf.saidreads import said, said_at
from anyhalf.saidrows import checked_said
from anyhalf.tables import children, root_of
from tests.common import E, Case, deep_brackets, drawn_language, drawn_words, split
from tests.test_saidrows import ROW


def said_by_hand(language, words, table, i):
    """The said row of word i, straight by the words of the point."""
    below = children(table, i)
    closings = [pair[1] for pair in language.pairs]
    if words[i] in closings and len(below) == 2 and words[below[0]] == language.pairs[closings.index(words[i])][0]:
        content = said_by_hand(language, words, table, below[1])
        plain = words[i] == closings[0]
        return content if plain else (("kept", words[below[0]]),) + content
    if len(below) == 0:
        kind = "operand"
    elif len(below) == 2:
        kind = "between"
    else:
        kind = "ahead" if below[0] > i else "behind"
    row = ((kind, words[i]),)
    for child in below:
        row += said_by_hand(language, words, table, child)
    return row


class SaidReadsTest(Case):
    def both(self, text, row):
        words = split(text)
        table = read_plain(E, words)[2]
        self.assertEqual(said(E, words, table), row)
        self.assertEqual(said_at(E, words, table, root_of(table)), row)

    def test_example(self):
        self.both("( a * not b ) + c", ROW)

    def test_plain_pairs_are_left_out(self):
        self.both("a", (("operand", "a"),))
        self.both("( a )", (("operand", "a"),))
        self.both("( ( ( a ) ) )", (("operand", "a"),))
        self.both("( - ( a ) )", (("ahead", "-"), ("operand", "a")))
        self.both("( a - b ) !", (("behind", "!"), ("between", "-"), ("operand", "a"), ("operand", "b")))

    def test_kept_pairs_are_told(self):
        self.both("[ a ]", (("kept", "["), ("operand", "a")))
        self.both("( [ ( [ a ] ) ] )", (("kept", "["), ("kept", "["), ("operand", "a")))
        self.both("[ a ] + ( [ b ! ] )", (("between", "+"), ("kept", "["), ("operand", "a"), ("kept", "["),
                                          ("behind", "!"), ("operand", "b")))

    def test_at_every_word(self):
        words = split("( a * [ b ] ) + c")
        table = read_plain(E, words)[2]
        whole = said(E, words, table)
        inner = (("between", "*"), ("operand", "a"), ("kept", "["), ("operand", "b"))
        expected = {1: (("operand", "a"),), 2: inner, 4: (("operand", "b"),), 5: (("kept", "["), ("operand", "b")),
                    6: inner, 7: whole, 8: (("operand", "c"),)}
        for at in range(9):
            if at in expected:
                self.assertEqual(said_at(E, words, table, at), expected[at])
            else:
                self.refused(NoSuch, at, said_at, E, words, table, at)
        self.assertEqual(whole, (("between", "+"),) + inner + (("operand", "c"),))

    def test_numbers_of_no_words(self):
        words = split("( a )")
        table = read_plain(E, words)[2]
        for at in (0, 3, 4, -1, -2, -3, 10 ** 30, -10 ** 30):
            self.refused(NoSuch, at, said_at, E, words, table, at)

    def test_drawn_words(self):
        draw = random.Random(8)
        many = 0
        while many < 200:
            language = drawn_language(draw)
            words = drawn_words(draw, language, draw.randint(1, 14))
            table = read_plain(language, words)[2]
            if not table:
                continue
            many += 1
            row = said(language, words, table)
            self.assertEqual(checked_said(language, row), row)
            self.assertEqual(row, said_by_hand(language, words, table, root_of(table)))
            have = False
            for at, word in enumerate(words):
                kind = role_of(language, word, have)[0]
                have = kind in ("operand", "behind", "close")
                if kind == "open":
                    self.refused(NoSuch, at, said_at, language, words, table, at)
                else:
                    self.assertEqual(said_at(language, words, table, at), said_by_hand(language, words, table, at))

    def test_signs_by_their_state(self):
        # One sign is an opening word where an operand is wanted; no other sign closes it.
        language = made_language(("left",), (("-", "ahead", 1), ("-", "behind", 1)), (("(", "{"), (")", "[")))
        words = split(") - ( a { - [ -")
        table = read_plain(language, words)[2]
        self.assertEqual(said(language, words, table), (("behind", "-"), ("kept", ")"), ("behind", "-"), ("ahead", "-"),
                                                        ("operand", "a")))

    def test_errors_of_words(self):
        self.refused(BadWord, 0, said, E, ("a+",), (-1,))
        self.refused(BadWord, 1, said_at, E, ("a", None), (-1, 0), 99)
        self.refused(TooMany, 4001, said, E, ("a",) * 4001, (-1,))
        self.refused(TooMany, 4001, said_at, E, ("",) * 4001, (-1,), -1)

    def test_longer_than_an_argument_may_be(self):
        words = split("a + " * 1999 + "a")
        row = said(E, words, read_plain(E, words)[2])
        self.assertEqual(row, (("between", "+"),) * 1999 + (("operand", "a"),) * 2000)

    def test_deep(self):
        words = deep_brackets(1999)
        table = read_plain(E, words)[2]
        self.assertEqual(said(E, words, table), (("operand", "a"),))
        self.assertEqual(said_at(E, words, table, 3000), (("operand", "a"),))
        words = ("[",) * 1999 + ("a",) + ("]",) * 1999
        self.assertEqual(said(E, words, read_plain(E, words)[2]), (("kept", "["),) * 1999 + (("operand", "a"),))
        words = ("not",) * 3999 + ("a",)
        self.assertEqual(len(said(E, words, read_plain(E, words)[2])), 4000)

    def test_by_name(self):
        self.assertEqual(said(table=(-1,), words=("a",), language=E), (("operand", "a"),))
        self.assertEqual(said_at(i=0, table=(-1,), words=("a",), language=E), (("operand", "a"),))
