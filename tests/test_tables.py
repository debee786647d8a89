"""[78] to [85]: slopes, passing, tables, and the least table."""

import time
import unittest
from itertools import product
from math import gcd

from pursewebs.builders import chain, with_marks
from pursewebs.maketable import start_bound
from pursewebs.share import Share
from pursewebs.slopes import pass_faults, slope_price_twice
from pursewebs.table import Table
from pursewebs.verdict import Verdict
from pursewebs.web import Web
from tests import plain, plain_tables
from tests.refusals import NO_INTEGERS, NO_ROWS, NO_WEBS, Refusals, numbers, too_much

GREAT = 10 ** 40
FAR = (10 ** 30, 10 ** 30 + 17, 10 ** 39 + 5, GREAT - 1, GREAT)
STANDS = NO_INTEGERS + numbers(-1, 4, 10 ** 50)
PARTS = NO_ROWS + [([], "c"), ((0, 0, 0), "c"), ([0] * 5, "c"), ([0, -1, 0, 0], "c")]


def webs(many=60):
    return plain_tables.small_webs(many, 81) + [Web.line(n, mark) for n in (1, 2, 3, 4) for mark in (1, 2)] + [
        chain(2), chain(3, 2), Web.ring(3), Web.ring(2, 2)]


def six_webs():
    """Small webs with 6 stands with steps, up to 10 stands and dues up to 9."""
    dues = [None, None, None, ("chips", 0), ("chips", 9), ("less", 9), ("less", 0), ("chips", 4)]
    found = [web for size in (7, 8, 9, 10) for web in plain.some_webs(size, 400, 82 + size, dues)]
    return [web for web in found if len(web.moving) == 6][::3]


def ranks_of(web, k, row):
    return plain.falling(web, k, row)[0]


def parts(table):
    return table.start, table.period, table.slopes, table.rows, table.ranks


class Slopes(Refusals):
    def cases(self):
        for at, web in enumerate(webs(12)):
            for m in (1, 3):
                for slopes in plain.rows(web.size, m)[at % 3::7 if web.size < 4 else 61]:
                    yield at, web, m, slopes

    def test_slope_prices_by_words(self):
        for _, web, m, slopes in self.cases():
            for v in range(web.size):
                told = plain_tables.slope_price_twice(web, m, slopes, v)
                self.assertEqual(slope_price_twice(web, m, list(slopes), v), told)

    def test_passing_by_words(self):
        seen = {}
        for at, web, m, slopes in self.cases():
            k = at % 4
            rows = [tuple((3 * at + v * v + j * v) % (k + 2) for v in range(web.size)) for j in range(3)]
            for row in rows + [plain.numbers(web, k) if web.size < 4 else plain_tables.number_row(web, k)]:
                ranks = [(v + at) % 3 for v in range(web.size)]
                for told in (ranks, [0] * web.size):
                    faults = plain_tables.pass_faults(web, k, row, told, m, slopes)
                    self.assertTrue(pass_faults(web, k, row, told, m, slopes) == Verdict(faults))
                    seen[faults] = True
        self.assertGreater(len(seen), 25)

    def test_passing_at_good_tables(self):
        for web in webs(6):
            table = Table.least(web)
            for k in range(table.start + 2 * table.period):
                row = plain_tables.number_row(web, k)
                ranks = ranks_of(web, k, row)
                told = plain_tables.pass_faults(web, k, row, ranks, table.period, table.slopes)
                self.assertEqual(pass_faults(web, k, row, ranks, table.period, table.slopes).faults, told)
                # Passing does not change when the period and the slopes are multiplied.
                more = [5 * slope for slope in table.slopes]
                self.assertEqual(pass_faults(web, k, row, ranks, 5 * table.period, more).faults, told)
                if k >= table.start:
                    self.assertEqual(told, ())

    def test_edges(self):
        line = Web.line(3)
        self.assertEqual([slope_price_twice(line, 9, (0, 9, 0, 9), v) for v in range(4)], [18, 0, 18, 18])
        self.assertEqual([slope_price_twice(Web.line(3, 2), 9, [4, 5, 0, 9], v) for v in (1, 2)], [4, 14])
        self.assertEqual(slope_price_twice(line, 10 ** 50, [GREAT, 0, 10 ** 60, 1], 1), 10 ** 60 + GREAT)
        great = Web([[1], []] + [[]] * 58, [[1], []] + [[]] * 58, [1] * 60, [None, ("chips", GREAT)] + [None] * 58)
        row, ranks, slopes = [GREAT] * 2 + [GREAT + 1] * 58, [1] + [0] * 59, [0, 0] + [7] * 58
        self.assertEqual(pass_faults(great, GREAT, row, ranks, 7, slopes).faults, ())
        self.assertEqual(pass_faults(great, GREAT - 1, row, ranks, 7, slopes).faults, ())
        self.assertEqual(pass_faults(great, GREAT - 2, row, ranks, 7, slopes).faults, tuple(range(60)))
        self.assertEqual(pass_faults(great, GREAT, row, ranks, 6, slopes).faults, tuple(range(2, 60)))
        self.assertEqual(pass_faults(line, 0, (GREAT, 0, 10 ** 50, 1), [0] * 4, 1, (0, 0, 0, 1)).faults, (1, 2))

    def test_refusals(self):
        line = Web.line(3)
        periods = NO_INTEGERS + numbers(0, -1, -(10 ** 50))
        self.each_fault(slope_price_twice, [line, 3, [0, 1, 2, 3], 1], [NO_WEBS, periods, PARTS, STANDS])
        self.each_fault(pass_faults, [line, 3, (0, 1, 2, 3), [0, 1, 1, 0], 3, (0, 1, 2, 3)],
                        [NO_WEBS, NO_INTEGERS + numbers(-1) + too_much(GREAT + 1), PARTS, PARTS, periods, PARTS])


class GoodTables(Refusals):
    def test_tables_are_exact(self):
        """[81], [82]: rows by rounds, ranks by falling out, shares in 0 .. 1."""
        for web in webs():
            table = Table.least(web)
            self.assertEqual((table.judged(), plain_tables.judged(web, *parts(table))), ((), ()))
            for k in range(table.start + 3 * table.period + 2):
                row = plain_tables.number_row(web, k)
                self.assertEqual((table[k], table.told_ranks(k)), (row, ranks_of(web, k, row)))
                self.assertEqual(plain.upper_faults(web, k, row, table.told_ranks(k)), ())
                self.assertEqual([table.number(v, k) for v in range(web.size)], list(row))
            self.assertTrue(all(0 <= slope <= table.period for slope in table.slopes))

    def test_far_rows(self):
        begin = time.perf_counter()
        for web in webs(10) + six_webs()[::4] + [chain(6), Web.line(7), Web.line(7, 2), chain(6, 2)]:
            table = Table.least(web)
            for k in FAR:
                row = table[k]
                self.assertTrue(plain_tables.is_number_row(web, k, row))
                self.assertEqual(table.told_ranks(k), ranks_of(web, k, row))
                self.assertEqual(row, plain_tables.told(*parts(table)[:4], k))
        self.assertLess(time.perf_counter() - begin, 60)

    def test_the_least_of_all_good_tables(self):
        """Every table whose rows are number rows with their ranks, tried by [46], [47] and [79] alone."""
        for web in plain_tables.small_webs(14, 91, (1, 2, 3)) + [Web.line(3), Web.line(2, 2), chain(2), chain(2, 2)]:
            table = Table.least(web)
            rows = plain_tables.number_rows(web, table.start + table.period)
            ranks = [ranks_of(web, k, row) for k, row in enumerate(rows)]
            self.assertEqual(parts(table)[3:], (tuple(rows), tuple(ranks)))
            found = [(start, period, slopes) for start in range(table.start + 1) for period in range(1, table.period + 1)
                     if start + period <= len(rows) for slopes in product(range(period + 1), repeat=web.size)
                     if not plain_tables.judged(web, start, period, slopes, rows, ranks)]
            self.assertEqual(found, [parts(table)[:3]])

    def test_no_lesser_start_and_no_lesser_period(self):
        for web in webs():
            table = Table.least(web)
            start, period, slopes, rows, ranks = parts(table)
            self.assertEqual(gcd(period, *slopes), 1)
            if start > 0:
                faults = plain_tables.pass_faults(web, start - 1, rows[start - 1], ranks[start - 1], period, slopes)
                self.assertNotEqual(faults, ())
            bottoms = [table.share(v).bottom for v in range(web.size)]
            self.assertEqual(max(period % bottom for bottom in bottoms), 0)
            self.assertLessEqual(period, 2 ** len(web.moving))

    def test_many_small_webs_in_a_short_time(self):
        longest = 0
        for web in six_webs():
            begin = time.perf_counter()
            table = Table.least(web)
            longest = max(longest, time.perf_counter() - begin)
            self.assertEqual(table.judged(), ())
            self.assertLessEqual(table.period, 64)
            self.assertLessEqual(table.start, start_bound(web))
        self.assertLess(longest, 5)

    def test_slow_shares(self):
        """Webs whose throw rows come near the shares slowly, with dues that count for long."""
        ways = [[], [], [0, 3], [2, 4], [2, 5], [2, 6], [2, 7], [2, 1]]
        for marks in ([1] * 8, [2] * 8, [1, 1, 1, 2, 1, 2, 1, 2]):
            for dues in ((("chips", 0), None), (("chips", 9), ("less", 9)), (("less", 1), ("chips", 9))):
                web = Web(ways, ways, marks, dues + (None,) * 6)
                table = Table.least(web)
                self.assertEqual(plain_tables.judged(web, *parts(table)), ())
                self.assertTrue(plain_tables.is_number_row(web, GREAT, table[GREAT]))

    def test_known_tables(self):
        """[85]"""
        for u in range(1, 7):
            table = Table.least(chain(u))
            self.assertEqual((table.start, table.period), (0, 2 ** u))
        for n in range(2, 8):
            table = Table.least(Web.line(n))
            self.assertEqual((table.start, table.period, table.slopes), (n - 2, n, tuple(range(n + 1))))
            rows = plain_tables.number_rows(Web.line(n), 3 * n)
            for k in range(2 * n):
                self.assertEqual(rows[k + n], tuple(part + v for v, part in enumerate(rows[k])))

    def test_a_changed_table_is_not_good(self):
        """[81]: one number of one row, or one slope, changed."""
        for web in webs(5):
            start, period, slopes, rows, ranks = parts(Table.least(web))
            for v in range(web.size):
                for slope in range(period + 1):
                    if slope != slopes[v]:
                        self.changed(web, start, period, replaced(slopes, v, slope), rows, ranks)
                for k in list(range(start + period))[::3]:
                    for number in range(k + 2):
                        if number != rows[k][v]:
                            changed = replaced(rows, k, replaced(rows[k], v, number))
                            self.changed(web, start, period, slopes, changed, ranks)

    def changed(self, web, *told):
        faults = Table(web, *told).judged()
        self.assertEqual(faults, plain_tables.judged(web, *told))
        self.assertNotEqual(faults, ())

    def test_other_good_tables(self):
        """[81]: any greater start and any multiple of the period; the shares are the same."""
        for web in webs(8):
            table = Table.least(web)
            for more, times in ((1, 1), (0, 2), (3, 2), (2, 3)):
                start, period = table.start + more, table.period * times
                rows = [table[k] for k in range(start + period)]
                ranks = [table.told_ranks(k) for k in range(start + period)]
                slopes = [times * slope for slope in table.slopes]
                other = Table(web, start, period, slopes, rows, ranks)
                self.assertEqual((other.judged(), plain_tables.judged(web, *parts(other))), ((), ()))
                self.assertTrue(all(other.share(v) == table.share(v) for v in range(web.size)))
                self.assertEqual([other[k] for k in FAR], [table[k] for k in FAR])
                self.assertFalse(other == table)

    def test_one_step_away_from_the_least_table(self):
        for web in webs(8):
            start, period, slopes, rows, ranks = parts(Table.least(web))
            if start > 0:
                less = Table(web, start - 1, period, slopes, rows[:-1], ranks[:-1])
                self.assertEqual(less.judged(), plain_tables.judged(web, *parts(less)))
                self.assertNotEqual(less.judged(), ())
            for v in range(web.size):
                for k in (start, start + period - 1):
                    for rank in {ranks[k][v] + 1, max(0, ranks[k][v] - 1)} - {ranks[k][v]}:
                        table = Table(web, start, period, slopes, rows,
                                      replaced(ranks, k, replaced(ranks[k], v, rank)))
                        self.assertEqual(table.judged(), plain_tables.judged(web, *parts(table)))
            if period > 1:
                lesser = [min(slope, period - 1) for slope in slopes]
                table = Table(web, start, period - 1, lesser, rows[:-1], ranks[:-1])
                self.assertEqual(table.judged(), plain_tables.judged(web, *parts(table)))
                self.assertNotEqual(table.judged(), ())

    def test_the_bounds_of_the_start(self):
        """[82]"""
        for web in webs():
            table = Table.least(web)
            u, c = len(web.moving), max([due[1] for due in web.dues if due], default=0)
            self.assertEqual(start_bound(web), table.period * (2 ** (u + 1) + 4 * c))
            self.assertLessEqual(table.start, start_bound(web))
        self.assertEqual([start_bound(Web.line(3)), start_bound(Web.ring(1)), start_bound(chain(6))], [24, 4, 64 * 128])
        self.assertEqual(start_bound(Web([[]], [[]], [1], [("less", 9)])), 38)


class Facts(Refusals):
    def test_repeating(self):
        """[83], with words and purses by number rows of rounds."""
        for web in webs(5):
            table = Table.least(web)
            start, period = table.start, table.period
            rows = plain_tables.number_rows(web, start + 6 * period + 12)
            for v, slope in enumerate(table.slopes):
                told = plain_tables.word(rows, v)
                for first in range(start + 1, len(rows) - period):
                    self.assertEqual(sum(told[first:first + period]), slope)
                if slope < period:
                    for other in range(3):
                        self.repeated(rows, start, period, slope, v, other)

    def repeated(self, rows, start, period, slope, v, other):
        a = plain_tables.purse_against(rows, v, other, len(rows) - other - 1)
        later = other + period - slope
        most = len(rows) - later - 1
        if a is not None and a + other > start and a + slope <= most:
            self.assertEqual(plain_tables.purse_against(rows, v, later, most), a + slope)

    def test_distance(self):
        """[84]"""
        for web in webs(12):
            for told in (web, with_marks(web, 1), with_marks(web, 2)):
                table = Table.least(told)
                u, c = len(told.moving), max([due[1] for due in told.dues if due], default=0)
                most = 2 ** u - 1 + c
                for k, row in enumerate(plain_tables.number_rows(told, table.start + 2 * table.period)):
                    for number, slope in zip(row, table.slopes):
                        off = number * table.period - slope * (k + 1)
                        self.assertLessEqual(abs(off), most * table.period)
                        if all(told.marks[v] == 1 for v in told.moving):
                            self.assertLessEqual(off, c * table.period)
                        if all(told.marks[v] == 2 for v in told.moving):
                            self.assertGreaterEqual(off, -c * table.period)

    def test_webs_without_moves(self):
        for due, slope, start in ((None, 1, 0), (("chips", 0), 0, 0), (("chips", 9), 0, 8), (("less", 0), 1, 0),
                                  (("less", 9), 1, 8)):
            table = Table.least(Web([[]], [[]], [2], [due]))
            self.assertEqual((table.start, table.period, table.slopes), (start, 1, (slope,)))
            self.assertEqual(table[GREAT], (plain.due_number(due, GREAT),))
            self.assertTrue(table.share(0) == Share(slope))


def replaced(told, place, what):
    return tuple(what if at == place else old for at, old in enumerate(told))


if __name__ == "__main__":
    unittest.main()
