"""[4], [5] and [80]: Tables as objects, what they tell, their texts, and which webs are small."""

import unittest

from pursewebs.builders import chain, with_due
from pursewebs.errors import TooMuch, WrongKind, WrongNumber, WrongText
from pursewebs.maketable import start_bound
from pursewebs.share import Share
from pursewebs.sharerows import share_row
from pursewebs.table import Table, table_written
from pursewebs.web import Web
from tests import plain, plain_tables
from tests.refusals import NO_INTEGERS, NO_LISTS, NO_ROWS, NO_TEXTS, NO_WEBS, Refusals, numbers, too_much

GREAT = 10 ** 40
LINE = Web.line(2)
GOOD = [LINE, 1, 2, [0, 1, 2], [[0, 0, 1], [0, 1, 2], [0, 1, 3]], [[0, 1, 0], [0, 1, 0], [0, 1, 0]]]
TEXT = "table 0 2\nslopes 0 1 2\nrow 0 0 1\nranks 0 1 0\nrow 0 1 2\nranks 0 1 0\n"
FAR = NO_INTEGERS + numbers(-1, -(10 ** 50)) + too_much(GREAT + 1, 10 ** 50)


def not_small_webs():
    """Webs that are one step too great, by each of the bounds, and the greatest webs."""
    ends = Web([[]] * 11, [[]] * 11, [1] * 11, [None] * 11)
    ring = Web.ring(7)
    return [ends, ring, chain(7), Web.line(8), Web.line(59), with_due(LINE, 1, ("chips", 10)),
            with_due(LINE, 2, ("less", 10)), with_due(LINE, 1, ("less", GREAT))]


def just_small_webs():
    ends = Web([[]] * 10, [[]] * 10, [1] * 10, [None, ("chips", 9)] * 5)
    ways = [[0, 9], [0], [1, 8], [2], [3], [4, 9], [], [], [], []]
    six = Web(ways, ways, [1, 2] * 5, [None, None, ("less", 9), None, None, None, ("chips", 9), None, ("chips", 0), None])
    return [ends, Web.ring(6), chain(6), Web.line(7), with_due(LINE, 1, ("chips", 9)), with_due(LINE, 2, ("less", 9)), six]


def made(start=0, period=1, slopes=(0, 0, 0), rows=((0, 0, 0),), ranks=((0, 0, 0),), web=LINE):
    return Table(web, start, period, slopes, rows, ranks)


class Objects(Refusals):
    def test_what_a_table_tells(self):
        table = Table(*GOOD)
        self.assertTrue(table.web == LINE)
        told = (table.start, table.period, table.slopes, table.rows, table.ranks)
        self.assertEqual(told, (1, 2, (0, 1, 2), ((0, 0, 1), (0, 1, 2), (0, 1, 3)), ((0, 1, 0),) * 3))
        self.assertEqual([table[k] for k in range(6)],
                         [(0, 0, 1), (0, 1, 2), (0, 1, 3), (0, 2, 4), (0, 2, 5), (0, 3, 6)])
        self.assertEqual([str(table.share(v)) for v in range(3)], ["0/1", "1/2", "1/1"])
        self.assertTrue(table.share(1) == Share(1, 2))
        self.assertEqual((table.number(1, 5), table.number(2, GREAT), table.told_ranks(GREAT)), (3, GREAT + 1, (0, 1, 0)))
        self.assertEqual((table.judged(), type(table[3]), type(table.told_ranks(3))), ((), tuple, tuple))

    def test_rows_and_ranks_told_by_words(self):
        for start in range(3):
            for period in range(1, 4):
                many = start + period
                rows = [[(k * v) % (k + 2) for v in range(3)] for k in range(many)]
                ranks = [[k, 2 * k, 10 ** 50] for k in range(many)]
                slopes = [0, 1, period]
                table = made(start, period, slopes, rows, ranks)
                for k in list(range(12)) + [10 ** 20, GREAT]:
                    place = k if k < many else start + (k - start) % period
                    self.assertEqual(table[k], plain_tables.told(start, period, slopes, rows, k))
                    self.assertEqual(table.told_ranks(k), tuple(ranks[place]))
                    self.assertEqual([table.number(v, k) for v in range(3)], list(table[k]))
                self.assertEqual(table.judged(), plain_tables.judged(LINE, start, period, slopes, rows, ranks))

    def test_judged_by_words(self):
        for at, web in enumerate(plain_tables.small_webs(20, 95, (2, 3))):
            start, period = at % 3, 1 + at % 2
            rows = [[(at + k * v) % (k + 2) for v in range(web.size)] for k in range(start + period)]
            ranks = [[(at + k + v) % 3 for v in range(web.size)] for k in range(start + period)]
            slopes = [(at + v) % (period + 1) for v in range(web.size)]
            table = Table(web, start, period, slopes, rows, ranks)
            self.assertEqual(table.judged(), plain_tables.judged(web, start, period, slopes, rows, ranks))

    def test_equality(self):
        table = Table(*GOOD)
        self.assertTrue(table == Table(*GOOD))
        self.assertFalse(table != Table(*GOOD))
        as_tuples = Table(LINE, 1, 2, (0, 1, 2), tuple(map(tuple, GOOD[4])), tuple(map(tuple, GOOD[5])))
        self.assertTrue(table == as_tuples)
        changes = [(0, Web.line(2, 2)), (3, [0, 1, 1]), (4, [[0, 0, 1], [0, 1, 2], [0, 2, 3]]),
                   (5, [[0, 1, 0], [0, 1, 0], [0, 1, 1]])]
        others = [Table(*[changed if at == place else part for at, part in enumerate(GOOD)]) for place, changed in changes]
        for other in others + [Table(LINE, 0, 3, *GOOD[3:]), None, GOOD, tuple(GOOD), TEXT]:
            self.assertFalse(table == other)
            self.assertTrue(table != other)

    def test_a_table_is_not_changed_by_its_lists(self):
        slopes, rows, ranks = [0, 1, 2], [[0, 0, 1], [0, 1, 2]], [[0, 1, 0], [0, 1, 0]]
        table = made(0, 2, slopes, rows, ranks)
        slopes[0], rows[0][0], ranks[1][1] = 1, 1, 7
        rows.append([1])
        self.assertEqual((table.slopes, table.rows, table.ranks),
                         ((0, 1, 2), ((0, 0, 1), (0, 1, 2)), ((0, 1, 0), (0, 1, 0))))
        self.assertTrue(table == Table.least(LINE))

    def test_small_webs(self):
        for web in just_small_webs():
            table = Table.least(web)
            self.assertEqual(plain_tables.judged(web, table.start, table.period, table.slopes, table.rows, table.ranks), ())
            self.assertTrue(Table(web, table.start, table.period, table.slopes, table.rows, table.ranks) == table)
        for web in not_small_webs():
            for call in (Table.least, start_bound, share_row):
                self.refused(TooMuch, call, web)
            size = web.size
            self.refused(TooMuch, Table, web, 0, 1, [0] * size, [[0] * size], [[0] * size])
            self.refused(WrongNumber, Table, web, 0, 1, [0] * size, [[0] * size], [[0] * (size + 1)])
            self.refused(WrongKind, Table, web, 0, 1, [0] * size, [[0] * size], [[None] * size])
            self.refused(TooMuch, Table.from_text, web, "table")

    def test_refusals(self):
        three = [([], "c"), ([[0, 0, 1]] * 2, "c"), ([[0, 0, 1]] * 4, "c")]
        lists = NO_LISTS + [([[0, 0, 1], [0, 1, 2], bad], "a") for bad, _ in NO_ROWS] + three
        slopes = NO_ROWS + [([], "c"), ((0, 1), "c"), ([0, 1, 2, 0], "c"), ([0, -1, 2], "c"), ([0, 1, 3], "c")]
        rows = lists + [([[0, 0, 1], [0, 1, 2], [0, 1]], "c"), ([[0, 0, 2], [0, 1, 2], [0, 1, 3]], "c"),
                        ([[0, 0, 1], [0, 1, 2], [0, 1, 4]], "c"), ([[0, 0, 1], [0, 1, 2], [0, -1, 3]], "c")]
        ranks = lists + [([[0, 1, 0], [0, 1, 0], [0, 1]], "c"), ([[0, 1, 0], [0, 1, -1], [0, 1, 0]], "c")]
        webs = NO_WEBS + [(with_due(LINE, 1, ("less", 10)), "f")]
        self.each_fault(Table, GOOD, [webs, NO_INTEGERS + numbers(-1, 0, 2, 10 ** 50),
                                      NO_INTEGERS + numbers(0, -1, 1, 3, 10 ** 50), slopes, rows, ranks])
        # The number of rows fits these starts and periods, but they are out of their ranges.
        for start, period in ((-1, 4), (3, 0), (4, -1), (-2, 5)):
            self.refused(WrongNumber, Table, LINE, start, period, [0, 0, 0], GOOD[4], GOOD[5])
        table = made(1, 2, [0, 2, 1], [[0, 0, 1], [0, 1, 2], [1, 0, 3]], [[0, 1, 10 ** 60]] * 3)
        self.assertEqual((table.slopes, table.ranks[0][2]), ((0, 2, 1), 10 ** 60))

    def test_refused_questions(self):
        table = Table(*GOOD)
        stands = NO_INTEGERS + numbers(-1, 3, 10 ** 50)
        self.each_fault(lambda k: table[k], [GREAT], [FAR])
        self.each_fault(table.told_ranks, [GREAT], [FAR])
        self.each_fault(table.number, [2, GREAT], [stands, FAR])
        self.each_fault(table.share, [0], [stands])
        for bad, _ in NO_WEBS:
            self.refused(WrongKind, Table.least, bad)
            self.refused(WrongKind, start_bound, bad)
        for bad in (None, GOOD, TEXT, Table, LINE):
            self.refused(WrongKind, table_written, bad)
        self.assertTrue(table == Table(*GOOD))


class Texts(Refusals):
    def test_both_ways(self):
        for web in plain_tables.small_webs(20, 96) + just_small_webs():
            table = Table.least(web)
            text = table_written(table)
            self.assertEqual(text, plain_text(table))
            if len(text) <= 40000:
                self.assertTrue(Table.from_text(web, text) == table)
            else:
                self.refused(TooMuch, Table.from_text, web, text)

    def test_tables_that_are_not_good(self):
        table = made(1, 1, [1, 0, 1], [[1, 0, 1], [2, 0, 1]], [[7, 10 ** 60, 0], [0, 0, 3]])
        self.assertTrue(Table.from_text(LINE, table_written(table)) == table)

    def test_long_texts(self):
        first = table_written(made(3, 1, [0] * 3, [[0] * 3] * 4, [[0] * 3] * 4))
        missing = 40000 - len(first)
        for more, error in ((0, None), (1, TooMuch)):
            digits = [(missing + more) // 12 + (1 if place < (missing + more) % 12 else 0) for place in range(12)]
            great = [10 ** many for many in digits]
            table = made(3, 1, [0] * 3, [[0] * 3] * 4, [great[3 * k:3 * k + 3] for k in range(4)])
            text = table_written(table)
            self.assertEqual(len(text), 40000 + more)
            if error is None:
                self.assertTrue(Table.from_text(LINE, text) == table)
            else:
                self.refused(error, Table.from_text, LINE, text)

    def test_wrong_texts(self):
        texts = ["", "\n", "table", "table 0 2\n", TEXT[:-1], TEXT + "\n", " " + TEXT, TEXT + " ", TEXT[1:],
                 TEXT.replace("\n", "\r\n"), TEXT.replace("\n", "\n\n"), TEXT.replace(" ", "  "), TEXT.replace("\n", " \n"),
                 TEXT.replace("table 0 2", "table 0 1"), TEXT.replace("table 0 2", "table 1 2"),
                 TEXT.replace("table 0 2", "table 2 0"), TEXT.replace("table 0 2", "table 0 2 0"),
                 TEXT.replace("table 0 2", "table 2"), TEXT.replace("table 0 2", "table 00 2"),
                 TEXT.replace("table 0 2", "table 0 +2"), TEXT.replace("table 0 2", "table -0 2"),
                 TEXT.replace("table", "tables"), TEXT.replace("slopes 0 1 2", "slopes 0 1 3"),
                 TEXT.replace("slopes 0 1 2", "slopes 0 1"), TEXT.replace("slopes 0 1 2", "slopes 0 1 2 2"),
                 TEXT.replace("slopes", "slope"), TEXT.replace("row 0 0 1", "row 0 0 2"), TEXT.replace("row", "rows"),
                 TEXT.replace("row 0 0 1", "row 0 0"), TEXT.replace("row 0 0 1", "row 0 x 1"),
                 TEXT.replace("ranks 0 1 0", "ranks 0 1"), TEXT.replace("ranks 0 1 0", "ranks 0 -1 0"),
                 TEXT.replace("ranks 0 1 0", "ranks 0 01 0"), TEXT.replace("ranks", "rank"),
                 TEXT.replace("row 0 0 1\nranks 0 1 0\n", ""), TEXT + "row 0 1 3\nranks 0 1 0\n",
                 TEXT.replace("row 0 0 1\nranks 0 1 0\n", "ranks 0 1 0\nrow 0 0 1\n"),
                 TEXT.replace("table 0 2", "table 0 " + "9" * 4500), TEXT.replace("table 0 2", f"table {10 ** 50} 2"),
                 TEXT.replace("slopes 0 1 2", "slopes 0 1 \u0662"), "slopes 0 1 2\n" + TEXT, TEXT[:-12], "x" * 40000,
                 "paper 1\nrow 0 0 1\nranks 0 1 0\n"]
        for text in texts:
            with self.subTest(text=text[:80]):
                self.assertNotEqual(text, TEXT)
                self.refused(WrongText, Table.from_text, LINE, text)
        self.refused(WrongText, Table.from_text, Web.line(3), TEXT)
        self.assertTrue(Table.from_text(Web.line(2, 2), TEXT) != Table.from_text(LINE, TEXT))

    def test_refusals(self):
        webs = NO_WEBS + [(web, "f") for web in not_small_webs()]
        texts = NO_TEXTS + [("x" * 40001, "f"), (TEXT + " " * 40000, "f"), (TEXT[:-1], "h"), ("", "h")]
        self.each_fault(Table.from_text, [LINE, TEXT], [webs, texts])


def plain_text(table):
    lines = [f"table {table.start} {table.period}", "slopes " + " ".join(map(str, table.slopes))]
    for row, ranks in zip(table.rows, table.ranks):
        lines += ["row " + " ".join(map(str, row)), "ranks " + " ".join(map(str, ranks))]
    return "".join(line + "\n" for line in lines)


class SmallWebs(Refusals):
    def test_the_bounds(self):
        for web in just_small_webs():
            self.assertTrue(web.size <= 10 and len(web.moving) <= 6)
            self.assertEqual(plain.lower_faults(web, GREAT, Table.least(web)[GREAT]), ())


if __name__ == "__main__":
    unittest.main()
