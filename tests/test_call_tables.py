"""[148]: tables for ever."""

import random
import time
import unittest
from itertools import count
from math import lcm

from pursewebs.builders import chain, with_due
from pursewebs.callpaper import CallPaper
from pursewebs.calltable import CallTable
from pursewebs.errors import TooMuch, WrongKind, WrongNumber, WrongWeb
from pursewebs.forever import forever_row
from pursewebs.share import Share
from pursewebs.table import Table
from pursewebs.web import Web
from tests import plain, plain_calls, plain_tables
from tests.refusals import NO_INTEGERS, NO_LISTS, NO_ROWS, NO_WEBS, Refusals, numbers, replaced, too_much
from tests.test_calls import CALLS, LENGTHS, some_calls

GREAT = 10 ** 40
LINE = Web.line(3)
DUES = [None, None, ("chips", 0), ("chips", 0), ("chips", 2), ("less", 0), ("less", 1)]


def keeps_order(web, row, s, v):
    """(c) of [79]"""
    lo, hi, low, high = plain.low(web, row, v), plain.high(web, row, v), plain.low(web, s, v), plain.high(web, s, v)
    return (all(s[w] == low for w in web.first[v] if row[w] == lo)
            and all(s[w] == high for w in web.second[v] if row[w] == hi)
            and (low >= high or lo < hi) and (low <= high or lo > hi))


def passes(web, calls, k, told, m, s, v):
    """[148]"""
    row, ranks, counts = told
    if max(due[1] if due else 0 for due in web.dues) > k + 1:
        return False
    if not web.first[v]:
        return s[v] == plain_tables.due_slope(web.dues[v], m)
    return (2 * s[v] == plain_tables.slope_price_twice(web, m, s, v) and keeps_order(web, row, s, v)
            and (v in calls or ranks[v] != 0 or s[v] == m) and (counts[v] != 0 or s[v] == 0))


def judged(web, calls, table):
    found = set()
    for k in range(table.start + table.period):
        row, ranks, counts = table.rows[k], table.ranks[k], table.counts[k]
        faults = set(plain_calls.above_faults(web, k, calls, row, ranks))
        faults |= set(plain_calls.below_faults(web, k, calls, row, counts))
        if k >= table.start:
            faults |= {v for v in range(web.size)
                       if not passes(web, calls, k, (row, ranks, counts), table.period, table.slopes, v)}
        found |= {(k, v) for v in faults}
    return tuple(sorted(found))


class Rows:
    """The rows for ever with ranks and counts, by the plain readings."""

    def __init__(self, web, calls):
        self.web, self.calls, self.known = web, calls, {}

    def at(self, k):
        if k not in self.known:
            row = plain_calls.for_ever(self.web, k, self.calls)
            self.known[k] = (row, plain_calls.ranks(self.web, k, self.calls, row)[0],
                             plain_calls.counts(self.web, k, self.calls, row)[0])
        return self.known[k]


def least(web, calls):
    """The start, the period and the slopes of the least table, by trying all starts and periods."""
    rows = Rows(web, calls)
    for start in count():
        for m in range(1, 2 ** len(web.moving) + 1):
            slopes = tuple(two - one for one, two in zip(rows.at(start)[0], rows.at(start + m)[0]))
            if all(passes(web, calls, k, rows.at(k), m, slopes, v)
                   for k in range(start, start + m) for v in range(web.size)):
                return (start, m, slopes), rows


def small_webs(sizes=(1, 2, 3, 4), many=20):
    for size in sizes:
        for at, web in enumerate(plain.some_webs(size, many, 150 + size, DUES)):
            if len(web.moving) <= 3:
                yield web, some_calls(web, at)
    for at, web in enumerate((Web.line(2), Web.line(3), Web.line(3, 2), Web.line(4), chain(2), chain(3, 2), Web.ring(3))):
        yield web, some_calls(web, at)
        yield web, web.moving[:1]


def five_webs(many):
    """Webs with 5 stands with steps, some of them with 9 stands and great dues."""
    dues = [None, ("chips", 0), ("chips", 9), ("less", 0), ("less", 9), ("chips", 3)]
    found = []
    chance = random.Random(158)
    for at in range(many):
        first = [chance.sample(range(9), chance.randint(1, 3)) if v < 5 else [] for v in range(9)]
        second = first if at % 2 else [chance.sample(range(9), chance.randint(1, 3)) if v < 5 else [] for v in range(9)]
        found.append(Web(first, second, [chance.choice((1, 2)) for _ in range(9)], [chance.choice(dues) for _ in range(9)]))
    ways = [[], [], [0, 3], [2, 4], [2, 5], [2, 6], [2, 1]]
    for marks in (1, 2):
        found.append(Web(ways, ways, [marks] * 7, [("chips", 9), ("less", 9)] + [None] * 5))
    return found + [chain(5), chain(5, 2), Web.line(6), Web.line(6, 2), Web.ring(5, 2)]


class Least(Refusals):
    def test_by_all_starts_and_periods(self):
        late = {}
        for web, calls in small_webs():
            told, rows = least(web, calls)
            table = CallTable.least(web, list(calls) * 2)
            self.assertEqual((table.start, table.period, table.slopes), told)
            self.assertTrue(table.web == web)
            self.assertEqual(table.calls, tuple(sorted(calls)))
            for k in range(table.start + table.period):
                self.assertEqual((table.rows[k], table.ranks[k], table.counts[k]), rows.at(k))
            self.assertEqual((len(table.rows), len(table.ranks), len(table.counts)), (table.start + table.period,) * 3)
            late[table.start > 0, table.period > 1, bool(calls)] = True
        self.assertGreaterEqual(len(late), 6)

    def test_it_is_good_and_exact(self):
        for web, calls in small_webs(many=12):
            table = CallTable.least(web, calls)
            self.assertEqual((judged(web, calls, table), table.judged()), ((), ()))
            for k in range(table.start + 2 * table.period + 3):
                self.assertEqual(table[k], plain_calls.for_ever(web, k, calls))
                self.assertTrue(bool(table.told(k).judged()))
            for k in (60, 10 ** 20 + 7, GREAT - 3, GREAT - 1, GREAT):
                paper = table.told(k)
                self.assertEqual((paper.row, paper.chips), (table[k], k))
                self.assertEqual(plain_calls.above_faults(web, k, calls, paper.row, paper.ranks), ())
                self.assertEqual(plain_calls.below_faults(web, k, calls, paper.row, paper.counts), ())
            self.assertEqual(table[60], forever_row(web, 60, calls))

    def test_periods_starts_and_distances(self):
        for web, calls in small_webs():
            table = CallTable.least(web, calls)
            u, c = len(web.moving), web.greatest_due
            shares = [table.share(v) for v in range(web.size)]
            self.assertEqual(table.period, lcm(*[share.bottom for share in shares]))
            self.assertLessEqual(table.period, 2 ** u)
            self.assertLessEqual(table.start, table.period * (2 ** (u + 1) + 2 * c))
            for k in list(range(table.start + table.period + 2)) + [GREAT]:
                for v, share in enumerate(shares):
                    self.assertEqual(share, Share(table.slopes[v], table.period))
                    self.assertLessEqual(abs(table[k][v] * share.bottom - share.top * (k + 1)),
                                         (2 ** u - 1 + c) * share.bottom)

    def test_without_calls(self):
        """[150]: without calls the numbers are those of the web without dues at stands with steps."""
        for web, _ in small_webs(many=10):
            other = Web(web.first, web.second, web.marks, [None if web.first[v] else web.dues[v] for v in range(web.size)])
            table, numbers_told = CallTable.least(web, []), Table.least(other)
            self.assertEqual((table.period, table.slopes), (numbers_told.period, numbers_told.slopes))
            for k in (0, 1, 5, 30, 10 ** 30, GREAT):
                self.assertEqual(table[k], numbers_told[k])

    def test_in_a_short_time(self):
        longest = late = 0
        for at, web in enumerate(five_webs(150)):
            for calls in (some_calls(web, at), some_calls(web, at + 1), ()):
                begin = time.perf_counter()
                table = CallTable.least(web, calls)
                longest = max(longest, time.perf_counter() - begin)
                late = max(late, table.start)
                self.assertEqual(table.judged(), ())
                for k in (table.start, GREAT - 5, GREAT):
                    paper = table.told(k)
                    self.assertEqual(plain_calls.above_faults(web, k, calls, paper.row, paper.ranks), ())
                    self.assertEqual(plain_calls.below_faults(web, k, calls, paper.row, paper.counts), ())
        self.assertGreater(late, 40)
        self.assertLess(longest, 5)

    def test_marks_and_endless_webs(self):
        """[150]: of an even web without ends, with steps from each stand to each."""
        ring, both = Web.ring(3, 2), Web([[0, 1], [0]], [[0, 1], [0]], [2, 1], [None, None])
        self.assertEqual(CallTable.least(ring, [1]).slopes, (0, 0, 0))
        self.assertEqual(CallTable.least(ring, []).slopes, (1, 1, 1))
        for web, calls in ((ring, [1]), (both, [0]), (both, [1]), (both, [0, 1])):
            table = CallTable.least(web, calls)
            self.assertIn(table.slopes, ((0,) * web.size, (table.period,) * web.size))


class Objects(Refusals):
    def parts(self, table):
        return [table.web, table.calls, table.start, table.period, table.slopes, table.rows, table.ranks, table.counts]

    def test_one_step_away(self):
        """Starts, periods, slopes, rows, ranks and counts one step away from the least table."""
        seen = {}
        for web, calls in list(small_webs(many=5))[::2]:
            table = CallTable.least(web, calls)
            parts = self.parts(table)
            for place, row in enumerate(parts[4]):
                for more in (-1, 1):
                    if 0 <= row + more <= table.period:
                        self.check(parts, 4, replaced(parts[4], (place, row + more)), seen)
            for kind in (5, 6, 7):
                for k, row in enumerate(parts[kind]):
                    for v in range(web.size):
                        for more in (-1, 1):
                            if row[v] + more >= 0 and (kind > 5 or row[v] + more <= k + 1):
                                changed = replaced(row, (v, row[v] + more))
                                self.check(parts, kind, replaced(parts[kind], (k, changed)), seen)
        self.assertEqual(sorted(seen), [(kind, good) for kind in (4, 5, 6, 7) for good in (False, True) if kind > 5 or not good])

    def check(self, parts, place, part, seen):
        other = CallTable(*replaced(parts, (place, part)))
        found = other.judged()
        self.assertEqual(found, judged(other.web, other.calls, other))
        seen[place, found == ()] = True

    def test_other_good_tables(self):
        for web, calls in list(small_webs(many=4))[::3]:
            table = CallTable.least(web, calls)
            for start, times in ((table.start + 1, 1), (table.start, 2), (table.start + 3, 3)):
                period = times * table.period
                told = [table.told(k) for k in range(start + period)]
                other = CallTable(web, list(calls), start, period, [times * slope for slope in table.slopes],
                                  [paper.row for paper in told], [paper.ranks for paper in told],
                                  [paper.counts for paper in told])
                self.assertEqual(other.judged(), ())
                self.assertEqual([other[k] for k in (0, 7, 50, GREAT)], [table[k] for k in (0, 7, 50, GREAT)])
                self.assertTrue(other != table)
            rows = [table.told(k) for k in range(table.start + table.period + 1)]
            for period in (table.period - 1, table.period + 1):
                if period > 0:
                    told = rows[:table.start + period]
                    slopes = [min(slope, period) for slope in table.slopes]
                    near = CallTable(web, calls, table.start, period, slopes, [paper.row for paper in told],
                                     [paper.ranks for paper in told], [paper.counts for paper in told])
                    self.assertEqual(near.judged(), judged(web, calls, near))
            if table.start > 0:
                early = CallTable(web, calls, table.start - 1, table.period, table.slopes, table.rows[:-1],
                                  table.ranks[:-1], table.counts[:-1])
                self.assertEqual(early.judged(), judged(web, calls, early))

    def test_what_is_told_by_words(self):
        for start in range(3):
            for period in (1, 2, 3):
                many = start + period
                rows = [[(k * v + v) % (k + 2) for v in range(4)] for k in range(many)]
                ranks = [[(k + v) % 3 for v in range(4)] for k in range(many)]
                counts = [[(k * v + 1) % 4 for v in range(4)] for k in range(many)]
                slopes = [0, 1, period, period - 1]
                table = CallTable(LINE, [2, 1], start, period, slopes, rows, ranks, counts)
                for k in list(range(12)) + [GREAT]:
                    j, i = (0, k) if k < many else ((k - start) // period, start + (k - start) % period)
                    row = tuple(part + j * slope for part, slope in zip(rows[i], slopes))
                    self.assertEqual(table[k], row)
                    self.assertTrue(table.told(k) == CallPaper(LINE, k, [1, 2], row, ranks[i], counts[i]))
                self.assertEqual(table.judged(), judged(LINE, (1, 2), table))

    def test_equal_tables(self):
        table = CallTable.least(LINE, [1])
        parts = self.parts(table)
        self.assertTrue(table == CallTable(*parts) and not table != CallTable(*parts))
        more = [tuple(table.told(k).row) for k in range(table.start + table.period + 1)]
        others = [Web.line(3, 2), (2,), None, None, replaced(parts[4], (1, 0)),
                  replaced(parts[5], (0, (0, 0, 0, 0))), replaced(parts[6], (0, (0, 9, 0, 0))),
                  replaced(parts[7], (0, (0, 9, 0, 0)))]
        for place, other in enumerate(others):
            if other is not None:
                changed = CallTable(*replaced(parts, (place, other)))
                self.assertTrue(table != changed and not table == changed)
        ranks = [table.told(k).ranks for k in range(len(more))]
        counts = [table.told(k).counts for k in range(len(more))]
        self.assertTrue(table != CallTable(LINE, [1], table.start + 1, table.period, table.slopes, more, ranks, counts))
        self.assertFalse(table == parts)

    def test_a_table_lives_on_its_own(self):
        rows, ranks, counts, slopes, calls = [[0, 0, 0, 1]], [[0] * 4], [[0] * 4], [0, 0, 0, 1], [1]
        table = CallTable(LINE, calls, 0, 1, slopes, rows, ranks, counts)
        rows[0][1] = ranks[0][1] = counts[0][1] = slopes[1] = calls[0] = 1
        self.assertEqual((table.rows, table.ranks, table.counts), (((0, 0, 0, 1),), ((0,) * 4,), ((0,) * 4,)))
        self.assertEqual((table.slopes, table.calls, table.start, table.period), ((0, 0, 0, 1), (1,), 0, 1))

    def test_no_iteration(self):
        table = CallTable.least(LINE, [1])
        with self.assertRaises(TypeError):
            list(table)
        with self.assertRaises(TypeError):
            for _ in table:
                pass

    def test_a_due_that_comes_late(self):
        web = with_due(Web.line(2), 1, ("chips", 9))
        table = CallTable.least(web, [])
        self.assertGreaterEqual(table.start, 8)
        early = CallTable(web, [], 0, 2, table.slopes, table.rows[:2], table.ranks[:2], table.counts[:2])
        self.assertEqual(early.judged(), tuple((k, v) for k in (0, 1) for v in (0, 1, 2)))


class Wrong(Refusals):
    def great(self):
        ten = Web([[1], [0]] + [[]] * 8, [[1], [0]] + [[]] * 8, [1] * 10, [None] * 10)
        six = Web.line(7)
        return [(web, "f") for web in (ten, six, with_due(LINE, 1, ("less", 10)), with_due(LINE, 0, ("chips", 10)))]

    def test_least(self):
        nine = Web([[1, 2], [0], [1], [4], [0]] + [[]] * 4, [[3], [0], [1], [4], [0]] + [[]] * 4, [1] * 9,
                   [("less", 9)] * 4 + [None] * 5)
        self.assertEqual(CallTable.least(nine, [0]).judged(), ())
        self.assertEqual(CallTable.least(Web.line(6), [2, 3]).judged(), ())
        calls = [(bad, letter) for bad, letter in CALLS if letter == "a"] + [([1, -1], "c"), ([10 ** 50], "c"), ([0], "d")]
        self.each_fault(CallTable.least, [LINE, [1]], [NO_WEBS + self.great()[2:], calls])
        for web, _ in self.great():
            self.refused(TooMuch, CallTable.least, web, [1])
            self.refused(WrongWeb, CallTable.least, web, [web.ends[0]])
            self.refused(WrongNumber, CallTable.least, web, [web.ends[0], 10])
            self.refused(WrongKind, CallTable.least, web, [10, True])

    def test_made(self):
        rows, numbers_told = [[0, 1, 1, 1], (0, 2, 2, 2)], [[0, 5, 10 ** 50, 0], (0, 0, 0, 1)]
        lists = NO_LISTS + [([rows[0], bad], "a") for bad, _ in NO_ROWS] + [
            ([], "c"), (rows[:1], "c"), (rows * 2, "c"), ([rows[0], [0, 1, 1]], "c"), ([rows[0], [0, -1, 0, 0]], "c"),
            ([[0, 1, 1, 1, 1], rows[1]], "c")]
        slopes = NO_ROWS + LENGTHS + [([0, -1, 0, 0], "c"), ([0, 2, 0, 0], "c")]
        self.each_fault(CallTable, [LINE, (1, 1), 1, 1, [0, 1, 0, 1], rows, numbers_told, numbers_told],
                        [NO_WEBS + self.great()[2:], CALLS, NO_INTEGERS + numbers(-1, 0, 2), NO_INTEGERS + numbers(0, -1, 2),
                         slopes, lists + [([[0, 2, 0, 0], rows[1]], "c"), ([rows[0], [0, 0, 0, 3]], "c")], lists, lists])
        # The number of rows fits these starts and periods, but they are out of their ranges.
        for start, period in ((-1, 3), (2, 0), (3, -1)):
            self.refused(WrongNumber, CallTable, LINE, [], start, period, [0] * 4, rows, rows, rows)
        zeros = [[0] * 8]
        self.refused(TooMuch, CallTable, Web.line(7), [1], 0, 1, zeros[0], zeros, zeros, zeros)
        self.refused(WrongWeb, CallTable, Web.line(7), [0], 0, 1, zeros[0], zeros, zeros, zeros)

    def test_what_is_asked(self):
        table = CallTable.least(LINE, [1])
        chips = NO_INTEGERS + numbers(-1, -(10 ** 50)) + too_much(GREAT + 1, 10 ** 50)
        self.each_fault(lambda k: table[k], [GREAT], [chips])
        self.each_fault(table.told, [0], [chips])
        self.each_fault(table.share, [3], [NO_INTEGERS + numbers(-1, 4, 10 ** 50)])
        self.assertEqual(table[0], table.rows[0])


if __name__ == "__main__":
    unittest.main()
