from anyhalf.bonds import bond, bonds
from anyhalf.errors import BadRow
from anyhalf.languages import made_language
from tests.common import E, Case

SIDES = made_language(("left", "right", "none"),
                      (("l", "ahead", 1), ("r", "ahead", 2), ("n", "ahead", 3),
                       ("+", "between", 1), ("*", "between", 2), ("<", "between", 3),
                       ("!", "behind", 1), ("?", "behind", 2), ("~", "behind", 3)), (("(", ")"),))


class BondsTest(Case):
    def test_unlike_levels(self):
        self.assertEqual(bond(E, 0, 1), 0)
        self.assertEqual(bond(E, 4, 2), 1)
        self.assertEqual(bond(E, 6, 4), 1)
        self.assertEqual(bond(E, 2, 7), 0)

    def test_equal_levels(self):
        for level, expected in ((1, 1), (2, 0), (3, -1)):
            waiting = [at for at, row in enumerate(SIDES.rows) if row[2] == level and row[1] != "behind"]
            taking = [at for at, row in enumerate(SIDES.rows) if row[2] == level and row[1] != "ahead"]
            for t in waiting:
                for u in taking:
                    self.assertEqual(bond(SIDES, t, u), expected)
        self.assertEqual(bond(E, 2, 3), 1)
        self.assertEqual(bond(E, 1, 1), -1)
        self.assertEqual(bond(E, 6, 7), 0)

    def test_all_bonds(self):
        found = bonds(E)
        self.assertEqual(found, tuple(sorted(found)))
        waiting, taking = (0, 1, 2, 3, 4, 5, 6), (1, 2, 3, 4, 6, 7)
        self.assertEqual([(t, u) for t, u, _ in found], [(t, u) for t in waiting for u in taking])
        for t, u, told in found:
            self.assertEqual(told, bond(E, t, u))
        self.assertEqual(bonds(made_language(("left",), (), (("(", ")"),))), ())
        self.assertEqual(bonds(made_language(("left",), (("a", "ahead", 1), ("b", "ahead", 1)), (("(", ")"),))), ())

    def test_rows_in_the_other_role(self):
        self.refused(BadRow, 7, bond, E, 7, 2)
        self.refused(BadRow, 0, bond, E, 2, 0)
        self.refused(BadRow, 5, bond, E, 2, 5)
        self.refused(BadRow, 7, bond, E, 7, 0)

    def test_no_rows(self):
        for number in (-1, -8, 8, 100, 10 ** 40, -10 ** 40):
            self.refused(BadRow, number, bond, E, number, 2)
            self.refused(BadRow, number, bond, E, 2, number)
            self.refused(BadRow, number, bond, E, number, 5)

    def test_by_name(self):
        self.assertEqual(bond(u=2, t=4, language=E), 1)
        self.assertEqual(bonds(language=E), bonds(E))
