"""Papers as texts ([40], [35])."""

import random

from anyhalf.errors import BadLine
from anyhalf.papertext import paper_of, paper_text
from tests.common import Case
from tests.test_tabletext import BAD_NUMBERS


class PaperTextTest(Case):
    def test_there_and_back(self):
        for paper, text in (((), ""), (((0, 1, 1), (0, 1, 0)), "0 1 1\n0 1 0"), (((9999, 0, 0),), "9999 0 0")):
            self.assertEqual(paper_text(paper), text)
            self.assertEqual(paper_of(text), paper)

    def test_drawn_papers(self):
        draw = random.Random(371)
        for _ in range(200):
            paper = tuple((draw.choice((0, 9, 10, 9999)), draw.randint(0, 9999), draw.randint(0, 1))
                          for _ in range(draw.randint(0, 50)))
            found = paper_of(paper_text(paper))
            self.assertEqual(found, paper)
            self.assertTrue(all(type(step) is tuple for step in found))

    def test_nothing_else_is_looked_at(self):
        self.assertEqual(paper_of("7 8 1"), ((7, 8, 1),))
        self.assertEqual(paper_of("7 8 1\n1 2 1"), ((7, 8, 1), (1, 2, 1)))

    def test_how_many_lines(self):
        for many in (49, 50):
            self.assertEqual(paper_of("\n".join(["1 2 0"] * many)), ((1, 2, 0),) * many)
        for many in (51, 52, 60):
            self.refused(BadLine, 50, paper_of, "\n".join(["1 2 0"] * many))
        self.refused(BadLine, 49, paper_of, "\n".join(["1 2 0"] * 49 + ["", "1 2 0"]))
        self.refused(BadLine, 50, paper_of, "\n".join(["1 2 0"] * 50 + ["", ""]))
        self.refused(BadLine, 50, paper_of, "\n".join(["1 2 0"] * 50) + "\n")

    def test_bad_lines(self):
        good = ["0 1 1", "1 2 0", "2 0 1"]
        lines = ["", " ", "0 1", "0 1 1 1", "0  1 1", " 0 1 1", "0 1 1 ", "0 1 2", "0 1 -1", "0 1 -", "- 1 1", "0 1 01",
                 "0 1 00", "0,1,1", "(0, 1, 1)", "0 1 10"]
        lines += [odd + " 1 1" for odd in BAD_NUMBERS if "\n" not in odd]
        lines += ["1 " + odd + " 1" for odd in BAD_NUMBERS if "\n" not in odd]
        lines += ["1 1 " + odd for odd in BAD_NUMBERS if "\n" not in odd]
        for line in lines:
            for at in range(4):
                self.refused(BadLine, at, paper_of, "\n".join(good[:at] + [line] + good[at:] + ["", "a"]))
            if line != "":
                self.refused(BadLine, 0, paper_of, line)

    def test_line_ends(self):
        self.refused(BadLine, 0, paper_of, "\n")
        self.refused(BadLine, 1, paper_of, "0 1 1\n")
        self.refused(BadLine, 0, paper_of, "\n0 1 1")
        self.refused(BadLine, 1, paper_of, "0 1 1\n\n0 1 0")

    def test_by_name(self):
        self.assertEqual(paper_text(paper=paper_of(text="1 2 0")), "1 2 0")
