import random

from anyhalf.errors import BadSaid, TooMany
from anyhalf.languages import made_language
from anyhalf.saidrows import checked_said
from tests.common import E, Case, drawn_language, drawn_row

ROW = (("between", "+"), ("between", "*"), ("operand", "a"), ("ahead", "not"), ("operand", "b"), ("operand", "c"))
ODD = (None, True, False, 0, 1, "", "operand", (), ("operand",), ("operand", "a", "a"), (("operand", "a"),),
       ("operand", None), ("operand", 1), ("operand", True), ("operand", ("a",)), (None, "a"), (0, "a"), (True, "a"),
       (("operand",), "a"), ("a", "operand"), ("Operand", "a"), ("", "a"), ("fault", "a"), ("open", "["),
       ("close", "]"), ("operand", ""), ("operand", "not"), ("operand", "+"), ("operand", "abcdefghijklm"),
       ("operand", "A"), ("operand", "("), ("operand", "a b"), ("ahead", "+"), ("ahead", "!"), ("ahead", "a"),
       ("ahead", "no"), ("between", "not"), ("between", "!"), ("between", "++"), ("behind", "+"), ("behind", "-"),
       ("behind", "not"), ("kept", "("), ("kept", "]"), ("kept", ")"), ("kept", "{"), ("kept", ""), ("kept", None),
       ("kept", "[["), ((("operand", "a"), "a"), "a"))


class SaidRowsTest(Case):
    def test_example(self):
        self.assertEqual(checked_said(E, ROW), ROW)
        self.assertIs(checked_said(E, ROW), ROW)
        self.assertEqual(checked_said(row=ROW, language=E), ROW)

    def test_all_kinds(self):
        for row in ((("operand", "x"),), (("behind", "!"), ("operand", "a")), (("kept", "["), ("operand", "a")),
                    (("kept", "["), ("kept", "["), ("ahead", "-"), ("behind", "!"), ("operand", "abcdefghijkl")),
                    (("between", "-"), ("operand", "a"), ("ahead", "-"), ("operand", "a"))):
            self.assertEqual(checked_said(E, row), row)

    def test_third_pair_is_kept(self):
        language = made_language(("left",), (), (("(", ")"), ("[", "]"), ("{", "}")))
        row = (("kept", "{"), ("kept", "["), ("operand", "a"))
        self.assertEqual(checked_said(language, row), row)
        self.refused(BadSaid, 0, checked_said, language, (("kept", "("), ("operand", "a")))

    def test_entries_that_are_no_pairs(self):
        for odd in ODD:
            self.refused(BadSaid, 0, checked_said, E, (odd,))
            for at in range(len(ROW)):
                self.refused(BadSaid, at, checked_said, E, ROW[:at] + (odd,) + ROW[at + 1:])
            self.refused(BadSaid, len(ROW), checked_said, E, ROW + (odd, None))
        deep = ("operand", "a")
        for _ in range(48):
            deep = (deep, "a")
        self.refused(BadSaid, 0, checked_said, E, (deep,))

    def test_not_whole(self):
        self.refused(BadSaid, 0, checked_said, E, ())
        for many in range(1, len(ROW)):
            self.refused(BadSaid, many, checked_said, E, ROW[:many])

    def test_behind_a_whole_tree(self):
        self.refused(BadSaid, 1, checked_said, E, (("operand", "a"), ("operand", "a")))
        self.refused(BadSaid, 1, checked_said, E, (("operand", "a"), None))
        self.refused(BadSaid, 6, checked_said, E, ROW + ROW)

    def test_first_bad_entry(self):
        self.refused(BadSaid, 2, checked_said, E, ROW[:2] + (None, None))
        self.refused(BadSaid, 0, checked_said, E, (None,) + ROW)

    def test_taken_out(self):
        for at, what in enumerate((4, 4, 5, None, 5, 5)):
            fewer = ROW[:at] + ROW[at + 1:]
            if what is None:
                self.assertEqual(checked_said(E, fewer), fewer)
            else:
                self.refused(BadSaid, what, checked_said, E, fewer)

    def test_put_in(self):
        for at, what in enumerate((1, 6, 6, 6, 6, 6, 6)):
            self.refused(BadSaid, what, checked_said, E, ROW[:at] + (("operand", "z"),) + ROW[at:])
        for at in range(7):
            more = ROW[:at] + (("ahead", "-"),) + ROW[at:]
            self.refused(BadSaid, 6, checked_said, E, more) if at == 6 else checked_said(E, more)
            self.refused(BadSaid, 7 if at < 6 else 6, checked_said, E, ROW[:at] + (("between", "^"),) + ROW[at:])

    def test_how_many_pairs(self):
        for many in (399, 400):
            row = (("ahead", "not"),) * (many - 1) + (("operand", "a"),)
            self.assertEqual(checked_said(E, row), row)
            self.refused(BadSaid, many, checked_said, E, (("ahead", "not"),) * many)
        self.refused(TooMany, 401, checked_said, E, (("ahead", "not"),) * 400 + (("operand", "a"),))
        self.refused(TooMany, 401, checked_said, E, (None,) * 401)
        wide = (("between", "+"), ("operand", "a")) * 199 + (("operand", "a"),)
        self.assertEqual(checked_said(E, wide), wide)

    def test_drawn_rows(self):
        draw = random.Random(7)
        for _ in range(300):
            language = drawn_language(draw)
            row = drawn_row(draw, language, 12)
            self.assertEqual(checked_said(language, row), row)
            self.refused(BadSaid, len(row), checked_said, language, row + (("operand", "a"),))
            self.refused(BadSaid, len(row) - 1, checked_said, language, row[:-1])
