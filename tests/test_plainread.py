import random

from anyhalf.errors import BadWord, TooMany
from anyhalf.languages import made_language
from anyhalf.plainread import read_plain
from tests.common import E, FAULTS, Case, deep_brackets, drawn_language, drawn_words, split

GOOD = {
    "a + b * c": (1, -1, 3, 1, 3),
    "- a * b": (2, 0, -1, 2),
    "a * not b + c": (1, -1, 1, 4, 2, 4),
    "a ! ^ b": (1, 2, -1, 2),
    "[ a ]": (2, 2, -1),
    "a": (-1,),
    "not not a": (-1, 0, 1),
    "a + b + c": (1, 3, 1, -1, 3),
    "a - b + c": (1, 3, 1, -1, 3),
    "a ^ b ^ c": (1, -1, 3, 1, 3),
    "( a + b ) * c": (4, 2, 4, 2, 5, -1, 5),
    "a ^ b !": (1, -1, 3, 1),
    "- a !": (-1, 2, 0),
    "a ! !": (1, 2, -1),
    "a < b + c": (1, -1, 3, 1, 3),
    "a - - b": (1, -1, 1, 2),
    "( [ a ] )": (4, 3, 3, 4, -1),
}
BAD = {
    "a < b < c": ("clash", 3, ()),
    "( a": ("open", 0, ()),
    "[ a )": ("close", 2, ()),
    "a b": ("have", 1, ()),
    "+ a": ("want", 0, ()),
    "": ("end", 0, ()),
    "a +": ("end", 2, ()),
    "( a +": ("end", 3, ()),
    "( [ a": ("open", 1, ()),
    "( a ) + [ - b": ("open", 4, ()),
    "a )": ("close", 1, ()),
    "a + b )": ("close", 3, ()),
    "( a < b ]": ("close", 4, ()),
    "( )": ("want", 1, ()),
    "a ++ b": ("word", 1, ()),
    "++": ("word", 0, ()),
    "a (": ("have", 1, ()),
    "a not": ("have", 1, ()),
    "a !  <  b  +  c  <  d": ("clash", 6, ()),
    "not a < b < c": ("clash", 4, ()),
    "{ a }": ("word", 0, ()),
    "a + abcdefghijklm": ("word", 2, ()),
    "< <": ("want", 0, ()),
}


class PlainReadTest(Case):
    def test_good_rows(self):
        for text, table in GOOD.items():
            self.assertEqual(read_plain(E, split(text)), ("", -1, table), text)

    def test_faults(self):
        for text, reading in BAD.items():
            self.assertEqual(read_plain(E, split(text)), reading, text)

    def test_the_first_fault_counts(self):
        self.assertEqual(read_plain(E, split("a < b < c ++ )")), ("clash", 3, ()))
        self.assertEqual(read_plain(E, split("a ++ b < c < d")), ("word", 1, ()))
        self.assertEqual(read_plain(E, split("a ) b")), ("close", 1, ()))

    def test_all_kinds_are_drawn(self):
        draw = random.Random(3)
        kinds = set()
        for _ in range(3000):
            language = drawn_language(draw)
            words = drawn_words(draw, language, draw.randint(0, 12))
            kind, number, table = read_plain(language, words)
            kinds.add(kind)
            if kind == "":
                self.assertEqual((number, len(table)), (-1, len(words)))
            else:
                self.assertEqual(table, ())
                self.assertEqual(kind == "end", number == len(words))
                if kind not in ("end", "open"):
                    again = read_plain(language, words[:number])
                    self.assertIn(again[0], ("", "end", "open"))
        self.assertEqual(kinds, set(FAULTS) | {""})

    def test_names_in_rows(self):
        language = made_language(("left",), (("a", "between", 1), ("x", "ahead", 1)), (("{", ")"),))
        self.assertEqual(read_plain(language, split("x b a { c )")), ("", -1, (2, 0, -1, 5, 5, 2)))
        self.assertEqual(read_plain(language, split("a")), ("want", 0, ()))

    def test_no_words_by_form(self):
        for odd in ("", "a+", "()", " ", "A", None, 1, True, (), ("a",), "a b"):
            self.refused(BadWord, 0, read_plain, E, (odd,))
            self.refused(BadWord, 3, read_plain, E, ("++", "b", ")", odd, None))

    def test_how_many_words(self):
        self.assertEqual(read_plain(E, (")",) * 4000), ("want", 0, ()))
        self.assertEqual(read_plain(E, ("-",) * 4000), ("end", 4000, ()))
        self.refused(TooMany, 4001, read_plain, E, ("-",) * 4001)
        self.refused(TooMany, 4001, read_plain, E, ("",) * 4001)

    def test_deep(self):
        table = read_plain(E, deep_brackets(1999))[2]
        self.assertEqual(table[:1999], tuple(range(3998, 1999, -1)))
        self.assertEqual(table[1999:], tuple(range(2000, 3999)) + (-1,))
        self.assertEqual(read_plain(E, ("-",) * 3999 + ("a",)), ("", -1, (-1,) + tuple(range(3999))))
        powers = split("a ^ " * 1999 + "a")
        self.assertEqual(read_plain(E, powers)[2][1::2], (-1,) + tuple(range(1, 3996, 2)))
        self.assertEqual(read_plain(E, ("a",) + ("!",) * 3999), ("", -1, tuple(range(1, 4000)) + (-1,)))
        self.assertEqual(read_plain(E, ("(",) * 3999 + ("a",)), ("open", 3998, ()))

    def test_by_name(self):
        self.assertEqual(read_plain(words=("a",), language=E), ("", -1, (-1,)))
