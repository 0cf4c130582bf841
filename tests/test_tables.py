import random

from anyhalf.errors import NoSuch
from anyhalf.plainread import read_plain
from anyhalf.tables import children, root_of, span
from anyhalf.walks import depth_of, over, way
from tests.common import E, Case, deep_brackets, drawn_language, drawn_words, split

ODD = (-1, -2, -10 ** 30, 10 ** 30)


def table_of(text):
    return read_plain(E, split(text))[2]


def drawn_tables(seed, many):
    draw = random.Random(seed)
    while many > 0:
        language = drawn_language(draw)
        table = read_plain(language, drawn_words(draw, language, draw.randint(1, 14)))[2]
        if table:
            many -= 1
            yield table


def plain_way(table, i):
    return [i] + (plain_way(table, table[i]) if table[i] >= 0 else [])


class TablesTest(Case):
    def test_root(self):
        self.assertEqual(root_of(table_of("a")), 0)
        self.assertEqual(root_of(table_of("a + b * c")), 1)
        self.assertEqual(root_of(table_of("( a + b )")), 4)

    def test_children(self):
        table = table_of("( a + b ) * not c")
        self.assertEqual([children(table, i) for i in range(8)],
                         [(), (), (1, 3), (), (0, 2), (4, 6), (7,), ()])

    def test_spans(self):
        table = table_of("( a + b ) * not c")
        self.assertEqual([span(table, i) for i in range(8)],
                         [(0, 0), (1, 1), (1, 3), (3, 3), (0, 4), (0, 7), (6, 7), (7, 7)])

    def test_drawn_tables(self):
        for table in drawn_tables(4, 200):
            numbers = range(len(table))
            ways = [plain_way(table, i) for i in numbers]
            self.assertEqual(table[root_of(table)], -1)
            for i in numbers:
                beneath = [j for j in numbers if i in ways[j]]
                self.assertEqual(span(table, i), (min(beneath), max(beneath)))
                self.assertEqual(beneath, list(range(min(beneath), max(beneath) + 1)))
                self.assertEqual(children(table, i), tuple(j for j in numbers if table[j] == i))
                self.assertEqual(way(table, i), tuple(ways[i]))
                self.assertEqual(depth_of(table, i), len(ways[i]) - 1)
                for j in numbers:
                    self.assertEqual(over(table, i, j), [k for k in ways[i] if k in ways[j]][0])

    def test_numbers_of_no_words(self):
        table = table_of("a + b")
        for i in (3, 4) + ODD:
            for function in (children, span, way, depth_of):
                self.refused(NoSuch, i, function, table, i)

    def test_by_name(self):
        table = table_of("a + b")
        self.assertEqual(root_of(table=table), 1)
        self.assertEqual(children(i=1, table=table), (0, 2))
        self.assertEqual(span(i=1, table=table), (0, 2))
        self.assertEqual(way(i=0, table=table), (0, 1))
        self.assertEqual(depth_of(i=0, table=table), 1)
        self.assertEqual(over(j=0, i=2, table=table), 1)

    def test_deep(self):
        table = read_plain(E, deep_brackets(1999))[2]
        self.assertEqual(root_of(table), 3998)
        self.assertEqual(children(table, 3998), (0, 3997))
        self.assertEqual(span(table, 3998), (0, 3998))
        self.assertEqual(span(table, 2000), (1998, 2000))


class WalksTest(Case):
    def test_ways(self):
        table = table_of("a + b * c")
        self.assertEqual([way(table, i) for i in range(5)], [(0, 1), (1,), (2, 3, 1), (3, 1), (4, 3, 1)])
        self.assertEqual([depth_of(table, i) for i in range(5)], [1, 0, 2, 1, 2])

    def test_over(self):
        table = table_of("a + b * c")
        self.assertEqual(over(table, 2, 4), 3)
        self.assertEqual(over(table, 0, 4), 1)
        self.assertEqual(over(table, 4, 3), 3)
        self.assertEqual(over(table, 3, 4), 3)
        self.assertEqual(over(table, 2, 2), 2)
        self.assertEqual(over(table, 1, 2), 1)
        self.assertEqual(over(table, 2, 1), 1)

    def test_over_no_words(self):
        table = table_of("a + b")
        for odd in (3,) + ODD:
            self.refused(NoSuch, odd, over, table, odd, 0)
            self.refused(NoSuch, odd, over, table, 0, odd)
            self.refused(NoSuch, odd, over, table, odd, 77)
        self.refused(NoSuch, 77, over, table, 77, -1)

    def test_deep(self):
        table = read_plain(E, ("-",) * 3999 + ("a",))[2]
        self.assertEqual(way(table, 3999), tuple(range(3999, -1, -1)))
        self.assertEqual(depth_of(table, 3999), 3999)
        self.assertEqual(over(table, 3999, 2000), 2000)
        self.assertEqual(over(table, 2000, 3999), 2000)
        table = read_plain(E, split("a + " * 1999 + "a"))[2]
        self.assertEqual(depth_of(table, 0), 1999)
        self.assertEqual(over(table, 0, 3998), 3997)
        self.assertEqual(over(table, 3998, 0), 3997)
