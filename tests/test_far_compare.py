"""What tables tell far away: papers, plans and purses, the reach of numbers, and the order of stands."""

import time
import unittest

from pursewebs.builders import chain
from pursewebs.compare import ever_above, ordered, reach_off
from pursewebs.errors import WrongKind
from pursewebs.far import far_against, far_paper, far_plans
from pursewebs.paper import Paper
from pursewebs.plans import FirstPlan, SecondPlan
from pursewebs.share import Share
from pursewebs.table import Table
from pursewebs.web import Web
from tests import plain, plain_tables
from tests.refusals import NO_INTEGERS, NO_WEBS, Refusals, numbers, too_much

GREAT = 10 ** 40
FAR = (10 ** 30, 10 ** 30 + 11, GREAT - 3, GREAT)
STANDS = NO_INTEGERS + numbers(-1, 4, 10 ** 50)
BOUNDS = NO_INTEGERS + numbers(-1, -(10 ** 50)) + too_much(GREAT + 1, 10 ** 50)
NO_TABLES = NO_WEBS + [(bad, "a") for bad in (Web.line(3), Table, Paper.exact(Web.line(3), 1))]


def webs(many=20):
    return plain_tables.small_webs(many, 101) + [Web.line(n, mark) for n in (2, 3, 4) for mark in (1, 2)] + [
        chain(2), chain(3, 2), Web.ring(3)]


def later_table(table, more, times):
    """Another good table of the same web."""
    start, period = table.start + more, table.period * times
    rows = [table[k] for k in range(start + period)]
    ranks = [table.told_ranks(k) for k in range(start + period)]
    return Table(table.web, start, period, [times * slope for slope in table.slopes], rows, ranks)


class FarPapers(Refusals):
    def test_papers(self):
        for web in webs(8):
            table = Table.least(web)
            for k in (0, 1, table.start, table.start + table.period) + FAR:
                paper = far_paper(table, k)
                self.assertTrue(paper == Paper(web, k, table[k], table.told_ranks(k)))
                self.assertTrue(bool(paper.judged()) and paper.web == web)
                self.assertTrue(plain_tables.is_number_row(web, k, paper.row))
                if k <= 40:
                    self.assertTrue(paper == Paper.exact(web, k))

    def test_plans(self):
        for web in webs(8):
            table = Table.least(web)
            for k in (0, 2, table.start + table.period) + FAR:
                first, second = far_plans(table, k)
                row, ranks = table[k], table.told_ranks(k)
                self.assertEqual((type(first), type(second)), (FirstPlan, SecondPlan))
                self.assertTrue(first.web == web and second.web == web)
                self.assertEqual((first.chips, first.row, first.ranks), (k, row, ranks))
                self.assertEqual((second.chips, second.row), (k, row))
                for v in web.moving:
                    for a in (row[v], min(k, row[v] + 1), max(0, row[v] - 1)):
                        if a <= k:
                            self.assertEqual(first(v, a), FirstPlan(web, k, row, ranks)(v, a))

    def test_told_far_plans_keep(self):
        """[53] at a far k: the first hand's plan from its number, against some bids and all steps."""
        for web in webs(8):
            table = Table.least(web)
            for k in FAR[1:]:
                first, second = far_plans(table, k)
                for v in web.moving:
                    a = first.row[v]
                    if a <= k and not first.claims(v, a):
                        p, one = first(v, a)
                        for q in {0, min(p, k - a), min(p + 1, k - a), k - a}:
                            gets = plain.first_gets(web, v, p, q)
                            for state in [(one, a - p)] if gets else [(w, a + q) for w in web.second[v]]:
                                self.assertGreaterEqual(state[1], first.row[state[0]])
                                self.assertLess(first.falls(*state), first.falls(v, a))
                    if a >= 1:
                        q, two = second(v, a - 1)
                        for p in {0, min(q, a - 1), min(q + 1, a - 1), a - 1}:
                            gets = plain.first_gets(web, v, p, q)
                            for state in [(w, a - 1 - p) for w in web.first[v]] if gets else [(two, a - 1 + q)]:
                                self.assertLess(state[1], first.row[state[0]])

    def test_a_table_that_is_not_good(self):
        table = Table(Web.line(2), 1, 2, [2, 0, 1], [[1, 0, 1], [2, 0, 0], [0, 3, 1]], [[3, 0, 1]] * 3)
        for k in list(range(8)) + [GREAT]:
            paper = far_paper(table, k)
            self.assertEqual((paper.row, paper.ranks), (table[k], (3, 0, 1)))
            self.assertEqual([plan.row for plan in far_plans(table, k)], [table[k]] * 2)

    def test_refusals(self):
        table = Table.least(Web.line(3))
        for call in (far_paper, far_plans):
            self.each_fault(call, [table, GREAT], [NO_TABLES, BOUNDS])


class FarAgainst(Refusals):
    def test_by_words(self):
        for web in webs():
            table = Table.least(web)
            most = table.start + 6 * table.period + 12
            rows = plain_tables.number_rows(web, most + 1)
            for told in (table, later_table(table, 2, 2)):
                for v in range(web.size):
                    for other in range(9):
                        a = plain_tables.purse_against(rows, v, other, most - other)
                        found = far_against(told, v, other)
                        if a is None and found is not None:
                            self.assertGreater(found + other, most)
                        else:
                            self.assertEqual(found, a)

    def test_far_away(self):
        """The purse found wins and one chip less does not, by papers; there is none where the slope is the period."""
        for web in webs():
            table = Table.least(web)
            for v in range(web.size):
                for other in FAR:
                    a = far_against(table, v, other)
                    if a is None:
                        self.assertEqual(table.slopes[v], table.period)
                        continue
                    self.assertLess(table.slopes[v], table.period)
                    self.assertTrue(self.wins(table, v, a, other))
                    self.assertTrue(a == 0 or not self.wins(table, v, a - 1, other))

    def wins(self, table, v, a, other):
        k = a + other
        row = plain_tables.told(table.start, table.period, table.slopes, table.rows, k)
        self.assertTrue(plain_tables.is_number_row(table.web, k, row))
        return a >= row[v]

    def test_none_and_far_greater_purses(self):
        self.assertEqual([far_against(Table.least(Web.line(2)), v, GREAT) for v in (0, 1, 2)], [0, GREAT, None])
        table = Table.least(chain(6))
        begin = time.perf_counter()
        self.assertEqual(far_against(table, 7, GREAT), 63 * GREAT)
        self.assertLess(time.perf_counter() - begin, 1)
        less = Table.least(Web([[]], [[]], [1], [("less", 9)]))
        self.assertEqual([far_against(less, 0, other) for other in (0, 7, 8, 9, GREAT)], [0, 0, 0, None, None])
        chips = Table.least(Web([[]], [[]], [1], [("chips", 9)]))
        self.assertEqual([far_against(chips, 0, other) for other in (0, 5, GREAT)], [9, 9, 9])

    def test_it_never_falls(self):
        for web in webs(8):
            table = Table.least(web)
            for v in range(web.size):
                told = [far_against(table, v, other) for other in range(30)]
                purses = [a for a in told if a is not None]
                self.assertEqual(purses, sorted(purses))
                self.assertEqual(told[:len(purses)], purses)

    def test_refusals(self):
        self.each_fault(far_against, [Table.least(Web.line(3)), 1, GREAT], [NO_TABLES, STANDS, BOUNDS])


class Compared(Refusals):
    def test_reach_by_words(self):
        for web in webs():
            table = Table.least(web)
            many = table.start + 3 * table.period
            rows = plain_tables.number_rows(web, many)
            for told in (table, later_table(table, 1, 3)):
                for v in range(web.size):
                    off = [Share(rows[k][v] * told.period - told.slopes[v] * (k + 1), told.period) for k in range(many)]
                    least = greatest = 0
                    for k in range(many):
                        least = k if off[k].compared(off[least]) < 0 else least
                        greatest = k if off[k].compared(off[greatest]) > 0 else greatest
                    found = reach_off(told, v)
                    self.assertEqual((found[1], found[3]), (least, greatest))
                    self.assertTrue(found[0] == off[least] and found[2] == off[greatest])

    def test_order_by_words(self):
        kinds = {}
        for web in webs(40):
            table = Table.least(web)
            for told in (table, later_table(table, 2, 1), later_table(table, 1, 2)):
                for v in range(web.size):
                    for w in range(web.size):
                        self.in_order(told, v, w)
                        kinds[ever_above(told, v, w)] = True
        self.assertEqual(sorted(kinds), ["always", "every so often", "never", "sometimes"])

    def in_order(self, table, v, w):
        """All the words of ordered and ever_above, by the numbers of k up to where they settle for sure."""
        start, period = table.start, table.period
        gain = abs(table.slopes[v] - table.slopes[w])
        many = start + (2 * max(max(row) for row in table.rows) // max(1, gain) + 4) * period
        above = [table.number(v, k) > table.number(w, k) for k in range(many + period)]
        bad = [k for k in range(start, many) if above[k] != above[k + period]]
        from_k = max(bad, default=start - 1) + 1
        remainders = tuple(sorted(k % period for k in range(from_k, from_k + period) if above[k]))
        told = ordered(table, v, w)
        self.assertEqual(told, (from_k, tuple(k for k in range(from_k) if above[k]), remainders))
        self.assertEqual([type(part) for part in told], [int, tuple, tuple])
        if len(remainders) == period:
            kind = "always"
        elif remainders:
            kind = "every so often"
        else:
            kind = "sometimes" if any(above) else "never"
        self.assertEqual(ever_above(table, v, w), kind)

    def test_the_numbers_by_rounds(self):
        for web in webs(8):
            table = Table.least(web)
            many = table.start + 2 * table.period
            rows = plain_tables.number_rows(web, many)
            for v in range(web.size):
                for w in range(web.size):
                    from_k, exceptions, remainders = ordered(table, v, w)
                    for k, row in enumerate(rows):
                        told = k in exceptions if k < from_k else k % table.period in remainders
                        self.assertEqual(told, row[v] > row[w])

    def test_refusals(self):
        table = Table.least(Web.line(3))
        self.each_fault(reach_off, [table, 1], [NO_TABLES, STANDS])
        for call in (ordered, ever_above):
            self.each_fault(call, [table, 1, 2], [NO_TABLES, STANDS, STANDS])
        self.refused(WrongKind, ordered, table, 1, True)


if __name__ == "__main__":
    unittest.main()
