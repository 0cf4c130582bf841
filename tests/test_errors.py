from anyhalf import errors
from tests.common import Case

NAMES = ("BadLevel", "BadRow", "BadPair", "BadText", "BadWord", "BadPlace", "BadNumber", "BadValue", "BadForm",
         "BadKept", "BadSaid", "BadLesson", "BadHand", "BadLine", "TooMany", "Unlike", "NoSuch", "NoReading",
         "NoWorth", "NothingToUndo", "NothingToRedo")


class ErrorsTest(Case):
    def test_all_stand_straight_under_refused(self):
        self.assertEqual(errors.Refused.__bases__, (ValueError,))
        for name in NAMES:
            self.assertEqual(getattr(errors, name).__bases__, (errors.Refused,))

    def test_no_other_class_is_there(self):
        classes = {name for name, value in vars(errors).items() if isinstance(value, type)}
        self.assertEqual(classes, set(NAMES) | {"Refused"})

    def test_what_is_kept(self):
        for name in NAMES + ("Refused",):
            for what in (3, -1, ("have", 1), "row", None, (0, "end", 2)):
                self.assertEqual(getattr(errors, name)(what).what, what)
            self.assertEqual(getattr(errors, name)(what=7).what, 7)

    def test_one_argument_is_asked_for(self):
        for name in NAMES + ("Refused",):
            with self.assertRaises(TypeError):
                getattr(errors, name)()
            with self.assertRaises(TypeError):
                getattr(errors, name)(1, 2)

    def test_caught_as_value_error(self):
        with self.assertRaises(ValueError):
            raise errors.BadRow(0)
