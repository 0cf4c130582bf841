"""Tables as texts ([40])."""

import random

from anyhalf.errors import BadLine
from anyhalf.tabletext import table_of, table_text
from tests.common import Case

BAD_NUMBERS = ("", "00", "01", "007", "10000", "99999", "-1", "--", "+1", "1.", "a", "0x1", "1_0", "\u00b2", "\u0661",
               "1\n", "\n", "-\n", "1e3", "\t1", "one", "- -1")


class TableTextTest(Case):
    def test_there_and_back(self):
        for table, text in (((), ""), ((-1,), "-"), ((0,), "0"), ((1, -1, 3, 1, 3), "1 - 3 1 3"),
                            ((9999, 10, 1000, 0), "9999 10 1000 0"), ((-1, -1, -1), "- - -")):
            self.assertEqual(table_text(table), text)
            self.assertEqual(table_of(text), table)
            self.assertIs(type(table_of(text)), tuple)

    def test_drawn_tables(self):
        draw = random.Random(361)
        for _ in range(200):
            table = tuple(draw.choice((-1, 0, 9, 10, 9999, draw.randint(-1, 9999))) for _ in range(draw.randint(0, 30)))
            self.assertEqual(table_of(table_text(table)), table)
        table = tuple(draw.randint(-1, 9999) for _ in range(4000))
        self.assertEqual(table_of(table_text(table)), table)

    def test_nothing_else_is_looked_at(self):
        self.assertEqual(table_of("5 5 5"), (5, 5, 5))
        self.assertEqual(table_of("0 " * 4999 + "-"), (0,) * 4999 + (-1,))

    def test_bad_texts(self):
        for odd in BAD_NUMBERS:
            if odd != "":
                self.refused(BadLine, 0, table_of, odd)
            for text in ("1 " + odd, odd + " 1", "- " + odd + " -", "1  - " + odd):
                self.refused(BadLine, 0, table_of, text)
        for text in (" ", "1 ", " 1", "1  2", "1\n2", "1\n", "\n1", "\n", "- ", "1,2", "1\t2", "(1, 2)"):
            self.refused(BadLine, 0, table_of, text)

    def test_by_name(self):
        self.assertEqual(table_text(table=table_of(text="1 -")), "1 -")
