"""[136] to [144] and [150]: rounds of rows, visit rows, rows for ever, ranks and counts, and papers with calls."""

import time
import unittest
from itertools import islice

from pursewebs.builders import chain, with_marks
from pursewebs.callpaper import CallPaper, half_above, half_below
from pursewebs.callranks import call_counts, call_ranks
from pursewebs.errors import TooMuch, WrongKind, WrongNumber, WrongWeb
from pursewebs.forever import forever_rise, forever_row, forever_rows
from pursewebs.rounds import number_row
from pursewebs.verdict import Verdict
from pursewebs.visits import round_row, visit_rows, visits_needed
from pursewebs.web import Web
from tests import plain, plain_calls
from tests.refusals import NO_INTEGERS, NO_ROWS, NO_WEBS, Refusals, numbers, too_much

GREAT = 10 ** 40
LINE = Web.line(3)
EVERY = Web([list(range(60))] * 60, [list(range(60))] * 60, [1, 2] * 30, [None] * 60)
DUES = [None, None, ("chips", 0), ("chips", 1), ("chips", 3), ("less", 0), ("less", 1), ("less", 2)]
CALLS = NO_ROWS + [([1, -1], "c"), ((4,), "c"), ([1, 10 ** 50], "c"), ([0], "d"), ((1, 2, 3), "d"), ([3, 3], "d")]
LENGTHS = [([], "c"), ((0, 0, 0), "c"), ([0] * 5, "c")]
CHIPS = NO_INTEGERS + numbers(-1, -(10 ** 50)) + too_much(61, GREAT + 1)


def some_calls(web, at):
    """No calls, all stands with steps, or some of them."""
    return [(), web.moving, web.moving[at % 2::2], web.moving[1:], web.moving[:1]][at % 5]


def cases(many=40, sizes=(1, 2, 3, 4)):
    """Webs with k and calls."""
    webs = [web for size in sizes for web in plain.some_webs(size, many, 910 + size, DUES)]
    webs += [Web.line(3), Web.line(3, 2), chain(2), chain(2, 2), Web.ring(3), Web.ring(3, 2), Web.ring(1, 2)]
    for at, web in enumerate(webs):
        for turn in (at, at + 2, at + 3):
            yield web, turn % 4 if web.size < 4 else turn % 3, some_calls(web, turn)


def endless(size, many, seed):
    """Webs without ends and dues."""
    for web in plain.some_webs(size, many, seed):
        if web.moving:
            first = [steps or (0,) for steps in web.first]
            second = [steps or (size - 1,) for steps in web.second]
            yield Web(first, second, web.marks, web.dues)


def some_rows(web, k):
    return plain.rows(web.size, k + 1)[::1 + 7 * web.size * web.size]


class Rounds(Refusals):
    def test_among_all_rows(self):
        """[137]: one of the rows is nowhere below any other, on tiny webs."""
        for web, k, calls in cases(25, (1, 2, 3)):
            if web.size < 3 or k < 2:
                for row in plain.rows(web.size, k + 1)[::5]:
                    told = plain_calls.round_among_all(web, k, calls, row)
                    self.assertEqual(round_row(web, k, list(calls), list(row)), told)
                    self.assertEqual(plain_calls.round_row(web, k, calls, row), told)

    def test_by_words(self):
        for web, k, calls in cases():
            for row in some_rows(web, k):
                self.assertEqual(round_row(web, k, calls, row), plain_calls.round_row(web, k, calls, row))

    def test_it_never_falls_where_the_row_does_not(self):
        for web, k, calls in cases(20):
            rows = some_rows(web, k)
            for one, two in zip(rows, rows[1:]):
                most = tuple(max(pair) for pair in zip(one, two))
                for low in (one, two):
                    pairs = zip(round_row(web, k, calls, low), round_row(web, k, calls, most))
                    self.assertTrue(all(less <= more for less, more in pairs))

    def test_refusals(self):
        row = NO_ROWS + LENGTHS + [([0, -1, 0, 0], "c"), ([0, 0, 62, 0], "c"), ([0, 0, 0, 10 ** 50], "c")]
        self.each_fault(round_row, [LINE, 60, [1, 2, 1], (0, 61, 5, 0)], [NO_WEBS, CHIPS, CALLS, row])
        self.refused(WrongNumber, round_row, LINE, 61, [0], (0, 0, 63, 0))
        self.refused(WrongWeb, round_row, LINE, 61, [0], (0, 0, 62, 0))
        self.refused(TooMuch, round_row, LINE, 61, [1], (0, 0, 62, 0))


class Visits(Refusals):
    def test_by_words(self):
        for web, k, calls in cases():
            told = plain_calls.visit_rows(web, k, calls)
            found = list(visit_rows(web, k, list(calls) * 2))
            self.assertEqual(found, told)
            self.assertTrue(all(type(row) is tuple for row in found))
            self.assertLessEqual(len(told) - 1, web.size * (k + 1))
            for early, late in zip(found, found[1:]):
                self.assertTrue(all(one <= two for one, two in zip(early, late)))
            for times in list(range(len(told) + 2)) + [10 ** 30, 10 ** 50]:
                self.assertEqual(visits_needed(web, k, calls, times), told[min(times, len(told) - 1)])

    def test_at_the_bound(self):
        begin = time.perf_counter()
        many = 0
        for web, calls in ((Web.line(59), list(range(1, 59))), (Web.line(59, 2), list(range(1, 59))),
                           (Web.line(59), [30]), (Web.line(59, 2), [7, 30, 31]), (EVERY, list(range(0, 60, 7))),
                           (chain(58, 2), list(range(2, 60, 3)))):
            rows = list(visit_rows(web, 60, calls))
            many = max(many, len(rows))
            self.assertEqual(rows[-1], forever_row(web, 60, calls))
            self.assertEqual(visits_needed(web, 60, calls, 10 ** 30), rows[-1])
            for at in (0, len(rows) // 2, len(rows) - 1):
                after = round_row(web, 60, calls, rows[at])
                self.assertEqual(after, rows[min(at + 1, len(rows) - 1)])
        self.assertGreater(many, 100)
        self.assertLess(time.perf_counter() - begin, 60)

    def test_great_dues(self):
        web = Web([[], [], [0, 1]], [[], [], [0, 1]], [1, 1, 2], [("chips", GREAT), ("less", GREAT), ("chips", 1)])
        self.assertEqual(list(visit_rows(web, 4, [2])), [(0, 0, 0), (5, 0, 0), (5, 0, 3)])

    def test_refusals(self):
        first = NO_WEBS, CHIPS, CALLS
        self.each_fault(lambda web, k, calls: next(visit_rows(web, k, calls)), [LINE, 60, [2, 1, 2]], first)
        times = NO_INTEGERS + numbers(-1, -(10 ** 50))
        self.each_fault(visits_needed, [LINE, 60, (), 10 ** 30], [*first, times])
        made = visit_rows(LINE, 61, [1])
        self.refused(TooMuch, lambda: next(made))


class ForEver(Refusals):
    def test_by_words(self):
        for web, k, calls in cases():
            self.assertEqual(forever_row(web, k, calls), plain_calls.for_ever(web, k, calls))
        for web, _, calls in cases(4, (2, 3)):
            told = [plain_calls.for_ever(web, k, calls) for k in range(7)]
            self.assertEqual(list(islice(forever_rows(web, list(calls)), 7)), told)

    def test_it_equals_its_round(self):
        """[139]: it does, and a row that is nowhere below its round is nowhere below it."""
        seen = 0
        for web, k, calls in cases(40):
            row = forever_row(web, k, calls)
            self.assertEqual(plain_calls.round_row(web, k, calls, row), row)
            for other in plain.rows(web.size, k + 1)[::3] if web.size < 3 else some_rows(web, k):
                after = plain_calls.round_row(web, k, calls, other)
                if all(one >= two for one, two in zip(other, after)):
                    seen += 1
                    self.assertTrue(all(one >= two for one, two in zip(other, row)))
        self.assertGreater(seen, 100)

    def test_reached_after_so_many_visits(self):
        """[139]: X_i is the row for ever for each i above S * K."""
        for web, k, calls in cases(20):
            row = forever_row(web, k, calls)
            most = max(plain_calls.counts(web, k, calls, row)[0])
            self.assertEqual(visits_needed(web, k, calls, most * (k + 1) + 1), row)

    def test_one_chip_more(self):
        """[140], with all sets of stands."""
        for web, _, calls in cases(12):
            before = (0,) * web.size
            for k, row in enumerate(islice(forever_rows(web, calls), 4)):
                grown = tuple(v for v in range(web.size) if row[v] != before[v])
                self.assertTrue(all(row[v] - before[v] in (0, 1) for v in range(web.size)))
                self.assertEqual(forever_rise(web, k, calls, list(before)), grown)
                if k < 3 or web.size < 3:
                    self.assertEqual(plain_calls.least_rises(web, k, calls, before), [grown])
                before = row

    def test_rises_of_other_rows_end(self):
        for web, k, calls in cases(10):
            for row in plain.rows(web.size, k)[::11]:
                found = forever_rise(web, k, calls, row)
                self.assertEqual(found, tuple(sorted(set(found))))
                self.assertTrue(all(0 <= v < web.size for v in found))

    def test_at_the_bound(self):
        begin = time.perf_counter()
        for web, calls in ((Web.line(59), [30]), (Web.line(59, 2), list(range(1, 59, 2))), (EVERY, [0, 1, 2, 50])):
            rows = list(islice(forever_rows(web, calls), 2001))
            self.assertEqual(rows[60], forever_row(web, 60, calls))
            grown = tuple(v for v in range(60) if rows[2000][v] != rows[1999][v])
            self.assertEqual(forever_rise(web, 2000, calls, rows[1999]), grown)
            ended = Web([() if v in calls else steps for v, steps in enumerate(web.first)],
                        [() if v in calls else steps for v, steps in enumerate(web.second)], web.marks,
                        [("chips", plain.price(web, 2000, rows[2000], v)) if v in calls else due
                         for v, due in enumerate(web.dues)])
            self.assertEqual(number_row(ended, 2000), rows[2000])
        for args, error in (((None, [1]), WrongKind), ((LINE, [4, 0]), WrongNumber), ((LINE, [0]), WrongWeb)):
            made = forever_rows(*args)
            self.refused(error, lambda: next(made))
        more = forever_rows(LINE, [1])
        self.assertEqual(len(list(islice(more, 2001))), 2001)
        self.refused(TooMuch, lambda: next(more))
        self.assertLess(time.perf_counter() - begin, 60)

    def test_refusals(self):
        self.each_fault(forever_row, [LINE, 60, (2, 1)], [NO_WEBS, CHIPS, CALLS])
        self.each_fault(lambda web, calls: next(forever_rows(web, calls)), [LINE, [2]], [NO_WEBS, CALLS])
        chips = NO_INTEGERS + numbers(-1, -(10 ** 50)) + too_much(2001, GREAT + 1)
        row = NO_ROWS + LENGTHS + [([0, -1, 0, 0], "c"), ([0, 0, 0, 10 ** 50], "c")]
        self.each_fault(forever_rise, [LINE, 2000, [1], [0, 1, 2000, 0]], [NO_WEBS, chips, CALLS, row])
        self.refused(WrongNumber, forever_rise, LINE, 2000, [1], [0, 0, 0, 2001])
        self.refused(WrongNumber, forever_rise, LINE, 0, [1], [0, 0, 0, 1])


class Special(Refusals):
    """[150]"""

    def test_no_ends_and_all_calls(self):
        for web in endless(3, 30, 61):
            for k in range(5):
                self.assertEqual(forever_row(web, k, web.moving), (0, 0, 0))

    def test_no_calls(self):
        for web, k, _ in cases(30):
            dues = [None if web.first[v] else web.dues[v] for v in range(web.size)]
            self.assertEqual(forever_row(web, k, []), number_row(Web(web.first, web.second, web.marks, dues), k))

    def test_more_calls(self):
        for web, k, _ in cases(12):
            rows = {tuple(sorted(some)): forever_row(web, k, sorted(some)) for some in plain.subsets(web.moving)}
            for few in rows:
                for many in rows:
                    if set(few) <= set(many):
                        self.assertTrue(all(one >= two for one, two in zip(rows[few], rows[many])))

    def test_one_visit(self):
        for web, k, calls in cases(30):
            first = [() if v in calls else steps for v, steps in enumerate(web.first)]
            second = [() if v in calls else steps for v, steps in enumerate(web.second)]
            dues = [("chips", 0) if v in calls else None if web.first[v] else web.dues[v] for v in range(web.size)]
            one = visits_needed(web, k, calls, 1)
            self.assertEqual(one, number_row(Web(first, second, web.marks, dues), k))
            self.assertTrue(all(late >= early for late, early in zip(forever_row(web, k, calls), one)))

    def test_marks(self):
        for web, k, calls in cases(30):
            even = Web(web.first, web.first, web.marks, web.dues)
            one, row, two = [forever_row(some, k, calls) for some in (with_marks(even, 1), even, with_marks(even, 2))]
            self.assertTrue(all(x <= y <= z for x, y, z in zip(one, row, two)))

    def test_steps_from_each_stand_to_each(self):
        seen = {}
        for web in endless(3, 120, 62):
            even = Web(web.first, web.first, web.marks, web.dues)
            if not all(reach(even, v) == {0, 1, 2} for v in range(3)):
                continue
            for calls in ([0], [1, 2], [2]):
                for k in range(4):
                    self.assertEqual(forever_row(with_marks(even, 1), k, calls), (0, 0, 0))
                    open_way = any(v in reach(even, v, calls, False) for v in range(3) if v not in calls)
                    told = (k + 1,) * 3 if open_way else (0, 0, 0)
                    self.assertEqual(forever_row(with_marks(even, 2), k, calls), told)
                    seen[open_way] = True
        self.assertEqual(len(seen), 2)

    def test_sets_that_are_not_left(self):
        seen = {}
        for web, k, calls in list(cases(30)) + [(web, at % 4, some_calls(web, at)) for at, web in enumerate(endless(3, 40, 63))]:
            row = forever_row(web, k, calls)
            for some in plain.subsets(web.moving):
                if some and all(w in some for v in some for w in (*web.first[v], *web.second[v])):
                    if all(row[v] >= 1 for v in some):
                        self.assertTrue(any(row[v] == k + 1 and v not in calls for v in some))
                        seen[1] = True
                    if all(row[v] <= k for v in some):
                        self.assertTrue(any(row[v] == 0 for v in some))
                        seen[0] = True
        self.assertEqual(len(seen), 2)


def reach(web, v, barred=(), with_begin=True):
    """The stands that steps lead to from v, not over the barred ones."""
    found = {v} if with_begin else set()
    waiting = [v]
    while waiting:
        for w in web.first[waiting.pop()]:
            if w not in found and w not in barred:
                found.add(w)
                waiting.append(w)
    return found


class RanksAndCounts(Refusals):
    def test_by_words(self):
        seen = {}
        for web, k, calls in cases():
            for row in some_rows(web, k) + [plain_calls.for_ever(web, k, calls)]:
                ranks, counts = call_ranks(web, k, calls, list(row)), call_counts(web, k, list(calls), row)
                self.assertEqual(ranks, plain_calls.ranks(web, k, calls, row))
                self.assertEqual(counts, plain_calls.counts(web, k, calls, row))
                self.assertEqual([type(part) for part in (*ranks, *counts, ranks, counts)], [tuple] * 6)
                seen[len(ranks[1]), len(counts[1])] = True
        self.assertGreater(len(seen), 6)

    def test_of_the_row_for_ever(self):
        """[144]"""
        for web, k, calls in cases(60):
            row = forever_row(web, k, calls)
            ranks, rest = call_ranks(web, k, calls, row)
            counts, other = call_counts(web, k, calls, row)
            self.assertEqual((rest, other), ((), ()))
            self.assertTrue(all(number <= len(web.moving) for number in ranks + counts))
            self.assertEqual(plain_calls.above_faults(web, k, calls, row, ranks), ())
            self.assertEqual(plain_calls.below_faults(web, k, calls, row, counts), ())

    def test_at_the_bound(self):
        begin = time.perf_counter()
        for web, calls in ((Web.line(59), [30]), (Web.line(59, 2), list(range(1, 59, 2))), (EVERY, [0, 1, 2, 50])):
            row = forever_row(web, 60, calls)
            self.assertEqual((call_ranks(web, 60, calls, row)[1], call_counts(web, 60, calls, row)[1]), ((), ()))
            call_counts(web, 60, calls, (61,) * 60)
        self.assertLess(time.perf_counter() - begin, 60)

    def test_refusals(self):
        row = NO_ROWS + LENGTHS + [([0, -1, 0, 0], "c"), ([0, 0, 62, 0], "c"), ([0, 0, 0, 10 ** 50], "c")]
        for call in (call_ranks, call_counts):
            self.each_fault(call, [LINE, 60, [1], (0, 61, 5, 0)], [NO_WEBS, CHIPS, CALLS, row])


class Papers(Refusals):
    def ranked(self):
        for at, (web, k, calls) in enumerate(cases(20)):
            row = plain_calls.for_ever(web, k, calls)
            yield web, k, calls, row, plain_calls.ranks(web, k, calls, row)[0]
            yield web, k, calls, row, plain_calls.counts(web, k, calls, row)[0]
            for other in some_rows(web, k)[:6] + [row]:
                yield web, k, calls, other, tuple((at + v * v) % 4 for v in range(web.size))
                yield web, k, calls, other, tuple(v in web.moving and v not in calls for v in range(web.size))

    def test_by_words(self):
        seen = {}
        for web, k, calls, row, told in self.ranked():
            told = tuple(int(number) for number in told)
            above = plain_calls.above_faults(web, k, calls, row, told)
            below = plain_calls.below_faults(web, k, calls, row, told)
            self.assertTrue(half_above(web, k, list(calls), list(row), told) == Verdict(above))
            self.assertTrue(half_below(web, k, calls, row, list(told)) == Verdict(below))
            paper = CallPaper(web, k, calls, row, told, told)
            self.assertEqual(paper.judged().faults, tuple(sorted(set(above + below))))
            seen[len(above), len(below)] = True
        self.assertGreater(len(seen), 8)

    def test_both_halves_meet(self):
        """[144], with all rows and few ranks and counts of webs with 1 and 2 stands."""
        above = below = 0
        for web, k, calls in cases(30, (1, 2)):
            if web.size > 2 or k > 2:
                continue
            told = plain_calls.for_ever(web, k, calls)
            for row in plain.rows(web.size, k + 1):
                for numbers_told in plain.rows(web.size, 2):
                    if bool(half_above(web, k, calls, row, numbers_told)):
                        above += 1
                        self.assertTrue(all(one >= two for one, two in zip(row, told)))
                    if bool(half_below(web, k, calls, row, numbers_told)):
                        below += 1
                        self.assertTrue(all(one <= two for one, two in zip(row, told)))
        self.assertTrue(above > 200 and below > 200)

    def test_of(self):
        for web, k, calls in cases(25):
            paper = CallPaper.of(web, k, list(calls) * 2)
            row = plain_calls.for_ever(web, k, calls)
            self.assertEqual((paper.chips, paper.calls, paper.row), (k, tuple(sorted(calls)), row))
            self.assertEqual((paper.ranks, paper.counts),
                             (plain_calls.ranks(web, k, calls, row)[0], plain_calls.counts(web, k, calls, row)[0]))
            self.assertTrue(paper.web == web and bool(paper.judged()))

    def test_at_the_bound(self):
        begin = time.perf_counter()
        for web, calls in ((Web.line(59), [30]), (Web.line(59, 2), list(range(1, 59, 2))), (EVERY, [0, 1, 2, 50])):
            paper = CallPaper.of(web, 60, calls)
            self.assertTrue(bool(paper.judged()))
            self.assertEqual(paper.counts, call_counts(web, 60, calls, paper.row)[0])
        self.assertLess(time.perf_counter() - begin, 60)

    def test_equal_papers(self):
        good = [LINE, 3, (1, 2), (0, 1, 2, 4), (0, 1, 0, 0), (0, 0, 2, 0)]
        paper = CallPaper(LINE, 3, [2, 1, 2], [0, 1, 2, 4], [0, 1, 0, 0], [0, 0, 2, 0])
        self.assertTrue(paper == CallPaper(*good) and not paper != CallPaper(*good))
        others = [Web.line(3, 2), 4, (1,), (0, 1, 2, 3), (0, 1, 0, 1), (0, 0, 1, 0)]
        for place, other in enumerate(others):
            changed = CallPaper(*good[:place], other, *good[place + 1:])
            self.assertTrue(paper != changed and not paper == changed)
        self.assertFalse(paper == good)
        row = [0, 1, 2, 4]
        kept = CallPaper(LINE, 3, [1], row, row, row)
        row[1] = 3
        self.assertEqual((kept.row, kept.ranks, kept.counts), ((0, 1, 2, 4),) * 3)

    def test_great_numbers(self):
        row, many = (0, GREAT + 1, 5, 0), (10 ** 50, 0, 3, 0)
        self.assertEqual(half_above(LINE, GREAT, [1], row, many).faults,
                         plain_calls.above_faults(LINE, GREAT, [1], row, many))
        self.assertEqual(half_below(LINE, GREAT, [1], row, many).faults,
                         plain_calls.below_faults(LINE, GREAT, [1], row, many))

    def test_refusals(self):
        chips = NO_INTEGERS + numbers(-1) + too_much(10 ** 50, GREAT + 1)
        row = NO_ROWS + LENGTHS + [([0, -1, 0, 0], "c"), ([0, 0, 0, GREAT + 2], "c"), ([0, 0, 10 ** 60, 0], "c")]
        ranks = NO_ROWS + LENGTHS + [([0, 0, 0, -1], "c")]
        good = [LINE, GREAT, [1, 2], (0, GREAT + 1, 5, 0), [0, 10 ** 50, 0, 1]]
        for call in (half_above, half_below):
            self.each_fault(call, good, [NO_WEBS, chips, CALLS, row, ranks])
        self.each_fault(CallPaper, good + [(0, 0, 10 ** 50, 0)], [NO_WEBS, chips, CALLS, row, ranks, ranks])
        self.each_fault(CallPaper.of, [LINE, 60, [1]], [NO_WEBS, CHIPS, CALLS])
        self.refused(WrongKind, half_above, LINE, -1, [0], (0,), [0, True, 0, 0])


if __name__ == "__main__":
    unittest.main()
