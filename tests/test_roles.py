from anyhalf.errors import BadWord
from anyhalf.languages import made_language
from anyhalf.rolesof import fault_of, role_of
from tests.common import E, Case

WANTED = {"a": ("operand", -1), "x1": ("operand", -1), "abcdefghijkl": ("operand", -1), "not": ("ahead", 0),
          "-": ("ahead", 5), "(": ("open", 0), "[": ("open", 1)}
THERE = {"<": ("between", 1), "+": ("between", 2), "-": ("between", 3), "*": ("between", 4), "^": ("between", 6),
         "!": ("behind", 7), ")": ("close", 0), "]": ("close", 1)}
NOWHERE = ("abcdefghijklm", "++", "--", "{", "}", "?", "+" * 13, "a" * 4000)


class RolesTest(Case):
    def both(self, word, have, role, fault):
        self.assertEqual(role_of(E, word, have), role)
        self.assertEqual(fault_of(E, word, have), fault)

    def test_where_an_operand_is_wanted(self):
        for word, role in WANTED.items():
            self.both(word, False, role, "")
        for word in set(THERE) - set(WANTED):
            self.both(word, False, ("fault", -1), "want")

    def test_where_an_operand_is_there(self):
        for word, role in THERE.items():
            self.both(word, True, role, "")
        for word in set(WANTED) - set(THERE):
            self.both(word, True, ("fault", -1), "have")

    def test_words_that_can_stand_nowhere(self):
        for word in NOWHERE:
            for have in (False, True):
                self.both(word, have, ("fault", -1), "word")

    def test_name_in_a_row_is_no_operand(self):
        language = made_language(("left",), (("f", "behind", 1), ("g", "between", 1), ("g", "ahead", 1)), (("{", "("),))
        self.assertEqual(role_of(language, "f", False), ("fault", -1))
        self.assertEqual(fault_of(language, "f", False), "want")
        self.assertEqual(role_of(language, "f", True), ("behind", 0))
        self.assertEqual(role_of(language, "g", False), ("ahead", 2))
        self.assertEqual(role_of(language, "g", True), ("between", 1))
        self.assertEqual(role_of(language, "{", False), ("open", 0))
        self.assertEqual(role_of(language, "(", True), ("close", 0))
        self.assertEqual(fault_of(language, "(", False), "want")
        self.assertEqual(fault_of(language, ")", True), "word")

    def test_bad_words(self):
        for word in ("", "a+", "a b", " ", "\n", "()", "((", "A", "a\n", "\u00e9", "%"):
            for have in (False, True):
                self.refused(BadWord, 0, role_of, E, word, have)
                self.refused(BadWord, 0, fault_of, E, word, have)

    def test_by_name(self):
        self.assertEqual(role_of(language=E, word="a", have=False), ("operand", -1))
        self.assertEqual(fault_of(language=E, word="a", have=True), "have")
