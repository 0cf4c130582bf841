"""Languages with reckonings ([22])."""

import random

from anyhalf.errors import BadForm, BadKept, BadNumber, BadValue, TooMany
from anyhalf.languages import Language, made_language
from anyhalf.reckon import reckoned
from tests.common import E, Case, drawn_language, with_reckoning

PAIRS = (("(", ")"), ("[", "]"), ("{", "}"))
ROWS = (("not", "ahead", 1), ("+", "between", 1), ("!", "behind", 1))
L = made_language(("left",), ROWS, PAIRS)
VALUES = (("a", 1), ("b", 0))
FORMS = ((1, 0), (0, 1, 1, 0), (1, 1))
KEPT = ((1, 0), (0, 1))
ODD = (True, False, "1", "", (), (1,), ((),))
DEEP = ()
for _ in range(49):
    DEEP = (DEEP,)


def reckoned_with(size=7, values=VALUES, default=0, forms=FORMS, kept=KEPT, language=L):
    return reckoned(language, size, values, default, forms, kept)


def numbered(many):
    return tuple(("a" + chr(97 + at // 26) + chr(97 + at % 26), 0) for at in range(many))


class ReckonedTest(Case):
    def wrong(self, error, what, **more):
        self.refused(error, what, reckoned_with, **more)

    def test_attribute(self):
        language = reckoned_with()
        self.assertIs(type(language), Language)
        self.assertEqual(language.reckoning, (7, VALUES, 0, FORMS, KEPT))
        self.assertEqual((language.levels, language.rows, language.pairs), (L.levels, L.rows, L.pairs))

    def test_handed_language_stays(self):
        language = made_language(("left",), ROWS, PAIRS)
        reckoned_with(language=language)
        self.assertIsNone(language.reckoning)
        self.assertTrue(language == L)

    def test_gives_way_to_a_new_one(self):
        one = reckoned_with()
        two = reckoned(one, 0, (), None, ((0, None), (0, 0, 0, None), (None, 0)), ((0, 0), (0, 0)))
        self.assertEqual(two.reckoning, (0, (), None, ((0, None), (0, 0, 0, None), (None, 0)), ((0, 0), (0, 0))))
        self.assertEqual(one.reckoning, (7, VALUES, 0, FORMS, KEPT))
        self.assertTrue(reckoned_with(language=two) == one)

    def test_equal_just_if_reckonings_are(self):
        one = reckoned_with()
        self.assertTrue(one == reckoned_with())
        for other in (L, reckoned_with(size=8), reckoned_with(values=VALUES[:1]), reckoned_with(default=1),
                      reckoned_with(forms=FORMS[:2] + ((1, 2),)), reckoned_with(kept=KEPT[::-1])):
            self.assertIs(one == other, False)
            self.assertIs(one != other, True)

    def test_sizes(self):
        for size in (0, 2, 3, 10, 10 ** 9):
            self.assertEqual(reckoned_with(size=size, forms=((1, 0), (0, 1, 1, 0), (1, 1))).reckoning[0], size)
        for size in (1, -1, -2, 10 ** 9 + 1, 10 ** 30, None) + ODD:
            self.wrong(BadNumber, size, size=size)

    def test_how_many_values(self):
        for many in (0, 1, 49, 50):
            self.assertEqual(len(reckoned_with(values=numbered(many)).reckoning[1]), many)
        self.wrong(TooMany, 51, values=numbered(51))
        self.wrong(TooMany, 70, values=(None,) * 70)

    def test_values(self):
        good = ("a", 1)
        for value in (("b", 7), ("b", -1), ("b", None), ("b", True), ("b", False), ("b", "1"), ("b", (1,)), ("b",),
                      ("b", 1, 1), "b1", "b", None, 0, True, (), DEEP, ("not", 1), ("+", 1), ("!", 1), ("(", 1),
                      ("", 1), ("B", 1), ("b c", 1), ("++", 1), ("bbbbbbbbbbbbb", 1), (None, 1), (1, 1), (True, 1),
                      (("b",), 1), (DEEP, 1), ("a", 1), ("a", 2), ("9", 1), (" b", 1)):
            self.wrong(BadValue, 1, values=(good, value))
            self.wrong(BadValue, 1, values=(good, value, None))
            if value not in (("a", 1), ("a", 2), ("9", 1)):
                self.wrong(BadValue, 0, values=(value, good))
        for value in (("b", 0), ("b", 6), ("bbbbbbbbbbbb", 1), ("aa", 1), ("a0", 1), ("nota", 2)):
            self.assertEqual(reckoned_with(values=(good, value)).reckoning[1], (good, value))

    def test_values_by_text(self):
        values = (("0", 1), ("10", 1), ("9", 1), ("a", 1), ("a0", 1), ("aa", 1), ("b", 1))
        self.assertEqual(reckoned_with(values=values).reckoning[1], values)
        for at in range(1, 7):
            exchanged = values[:at - 1] + (values[at], values[at - 1]) + values[at + 1:]
            self.wrong(BadValue, at, values=exchanged)
            self.wrong(BadValue, at, values=values[:at] + values[at - 1:])

    def test_numbers_with_a_size(self):
        for size in (2, 7, 10 ** 9):
            for number in (0, 1, size - 1):
                self.assertEqual(reckoned_with(size, default=number, forms=FORMS).reckoning[2], number)
            for number in (-1, size, 10 ** 30, None, DEEP) + ODD:
                self.wrong(BadValue, -1, size=size, default=number)
                self.wrong(BadValue, 0, size=size, values=(("a", number),))
                self.wrong(BadForm, 0, size=size, forms=((number, 0),) + FORMS[1:])
                self.wrong(BadKept, 1, size=size, kept=((0, 0), (0, number)))

    def test_numbers_with_size_0(self):
        for number in (None, 0, 1, -1, 10 ** 6, -10 ** 6):
            language = reckoned_with(0, (("a", number),), number, ((number,) * 2, (number,) * 4, (number,) * 2),
                                     ((number,) * 2,) * 2)
            self.assertEqual(language.reckoning[2], number)
        for number in (10 ** 6 + 1, -10 ** 6 - 1, 10 ** 30, DEEP) + ODD:
            self.wrong(BadValue, -1, size=0, default=number)
            self.wrong(BadValue, 1, size=0, values=(("a", None), ("b", number)))
            self.wrong(BadForm, 1, size=0, forms=((0, 0), (0, 0, 0, number), (0, number)))
            self.wrong(BadKept, 0, size=0, kept=((number, 0), (0, 0)))

    def test_forms(self):
        for many in (0, 1, 2, 4, 8):
            self.wrong(BadForm, many, forms=(None,) * many)
        odd = ((), (1,), (1, 1, 1), (1, 1, 1, 1, 1), None, True, 1, "11", "1111", DEEP, ((1, 1),))
        for at in range(3):
            other = (1, 1, 1, 1) if at != 1 else (1, 1)
            for form in odd + (other,):
                self.wrong(BadForm, at, forms=FORMS[:at] + (form,) + FORMS[at + 1:])
                self.wrong(BadForm, at, forms=FORMS[:at] + (form,) + (None,) * (2 - at))
            for place in range(len(FORMS[at])):
                form = FORMS[at][:place] + (7,) + FORMS[at][place + 1:]
                self.wrong(BadForm, at, forms=FORMS[:at] + (form,) + FORMS[at + 1:])

    def test_kept(self):
        for many in (0, 1, 3):
            self.wrong(BadKept, many, kept=(None,) * many)
        for at in range(2):
            for form in ((), (1,), (1, 1, 1), (1, 1, 1, 1), None, True, 1, "11", DEEP, (7, 0), (0, 7), (0, True)):
                self.wrong(BadKept, at, kept=KEPT[:at] + (form,) + KEPT[at + 1:])
                self.wrong(BadKept, at, kept=KEPT[:at] + (form,) + (None,) * (1 - at))

    def test_no_rows_and_one_pair(self):
        bare = made_language(("left",), (), PAIRS[:1])
        self.assertEqual(reckoned(bare, 2, (), 1, (), ()).reckoning, (2, (), 1, (), ()))
        self.refused(BadForm, 1, reckoned, bare, 2, (), 1, ((1, 0),), ())
        self.refused(BadKept, 1, reckoned, bare, 2, (), 1, (), ((1, 0),))

    def test_errors_in_order(self):
        wrong = {"size": 1, "values": (None,) * 51, "default": True, "forms": (), "kept": ()}
        self.wrong(BadNumber, 1, **wrong)
        wrong["size"] = 2
        self.wrong(TooMany, 51, **wrong)
        wrong["values"] = (None,) * 50
        self.wrong(BadValue, 0, **wrong)
        wrong["values"] = ()
        self.wrong(BadValue, -1, **wrong)
        wrong["default"] = 1
        self.wrong(BadForm, 0, **wrong)
        wrong["forms"] = (FORMS[0], None, None)
        self.wrong(BadForm, 1, **wrong)
        wrong["forms"] = FORMS
        self.wrong(BadKept, 0, **wrong)
        wrong["kept"] = (None, None)
        self.wrong(BadKept, 0, **wrong)

    def test_drawn_reckonings_are_let(self):
        draw = random.Random(81)
        for size in (0, 2, 3, 10 ** 9):
            for _ in range(50):
                language = with_reckoning(draw, drawn_language(draw), size)
                size_told, values, default, forms, kept = language.reckoning
                again = reckoned(kept=kept, forms=forms, default=default, values=values, size=size_told,
                                 language=language)
                self.assertTrue(again == language)

    def test_e(self):
        language = with_reckoning(random.Random(82), E, 10)
        self.assertEqual([len(form) for form in language.reckoning[3]], [2, 4, 4, 4, 4, 2, 4, 2])
