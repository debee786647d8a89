"""[160] to [165]: worths, their levels, values, stairs, plans and duels, and values by tables."""

import time
import unittest
from itertools import permutations

from pursewebs.builders import with_due
from pursewebs.duels import exact_plans
from pursewebs.errors import TooMuch, WrongKind, WrongNumber, WrongWeb
from pursewebs.plans import FirstPlan, SecondPlan
from pursewebs.rounds import number_row
from pursewebs.table import Table
from pursewebs.web import Web
from pursewebs.worthplans import HoldPlan, WorthPlan, far_value, level_tables, worth_duel
from pursewebs.worths import level_rows, level_web, stairs, value, value_listing
from tests import plain, plain_joins, plain_tables
from tests.refusals import NO_INTEGERS, NO_LISTS, NO_ROWS, NO_WEBS, Refusals, numbers, too_much
from tests.test_plans import check_state_calls

GREAT = 10 ** 40
LINE = Web.line(3)
STANDS = NO_INTEGERS + numbers(-1, 4, 10 ** 50)
WORTHS = NO_ROWS + [([], "c"), ((0, 0, 0), "c"), ([0] * 5, "c"), ([-1, 0, 0, 0], "c"), ([1001, 0, 0, 0], "c"),
                    ([0, 1, 0, 0], "c"), ([0, 0, 1000, 0], "c"), ([0, 0, 0, 10 ** 50], "c")]
LEVELS = NO_INTEGERS + numbers(0, -1, -(10 ** 50))


def cases(many=25, sizes=(1, 2, 3, 4)):
    """Webs with k and worths; dues do not count."""
    choice = (0, 1, 5, 7, 1000)
    webs = [web for size in sizes for web in plain.some_webs(size, many, 240 + size)]
    webs += [Web([[1, 2], [], [], []], [[1, 3], [], [], []], [mark] * 4, [None] * 4) for mark in (1, 2)]
    webs += [Web.line(3), Web.line(3, 2)]
    for at, web in enumerate(webs):
        for turn in (at, at + 3):
            k = turn % 4 if web.size < 4 else turn % 3
            yield web, k, tuple(0 if web.first[v] else choice[(turn + 2 * v) % 5] for v in range(web.size))


def great_web(size=60):
    """Half of the stands with steps, half of them ends with different worths."""
    half = size // 2
    ways = [[max(0, v - 1), min(half - 1, v + 1), half + v] for v in range(half)] + [[] for _ in range(half)]
    return Web(ways, ways, [1, 2] * half, [None] * size), [0] * half + [33 * v + 1 for v in range(half)]


class Levels(Refusals):
    def test_webs(self):
        for web, _, worths in cases():
            for level in (1, 2, 5, 6, 1000, 1001, 10 ** 50):
                self.assertTrue(level_web(web, list(worths), level) == plain_joins.level_web(web, worths, level))

    def test_rows(self):
        for web, k, worths in cases():
            told = [(level, plain_tables.number_row(plain_joins.level_web(web, worths, level), k))
                    for level in sorted({worth for worth in worths if worth})]
            found = level_rows(web, k, list(worths))
            self.assertEqual(found, tuple(told))
            for (_, one), (_, two) in zip(found, found[1:]):
                self.assertTrue(all(less <= more for less, more in zip(one, two)))

    def test_at_the_bound(self):
        begin = time.perf_counter()
        web, worths = great_web()
        rows = level_rows(web, 5000, worths)
        self.assertEqual(len(rows), 30)
        for level, row in rows[::10]:
            self.assertEqual(row, number_row(level_web(web, worths, level), 5000))
        told = [max([level for level, row in rows if row[7] <= purse], default=0) for purse in (0, 1700, 2500, 5000)]
        self.assertEqual([value(web, 5000, worths, 7, purse) for purse in (0, 1700, 2500, 5000)], told)
        steps = [(row[7], level) for level, row in rows if row[7] <= 5000]
        self.assertEqual(dict(stairs(web, 5000, worths, 7)), {0: told[0], **dict(steps)})
        self.assertLess(time.perf_counter() - begin, 120)

    def test_refusals(self):
        good = [LINE, [1000, 0, 0, 5], 1]
        self.each_fault(level_web, good, [NO_WEBS, WORTHS, LEVELS])
        chips = NO_INTEGERS + numbers(-1) + too_much(5001, GREAT)
        self.each_fault(level_rows, [LINE, 5000, (7, 0, 0, 1000)], [NO_WEBS, chips, WORTHS])
        self.assertEqual(level_rows(LINE, 5000, [0] * 4), ())


class Values(Refusals):
    def test_by_moves(self):
        """[160], bid by bid, and [161]."""
        seen = {}
        for web, k, worths in cases():
            told = plain_joins.values(web, k, worths)
            listed = value_listing(web, k, list(worths))
            self.assertEqual(listed, tuple(tuple(told[v, a] for a in range(k + 1)) for v in range(web.size)))
            self.assertEqual([type(listed), type(listed[0])], [tuple, tuple])
            for v, a in plain.states(web, k):
                self.assertEqual(value(web, k, worths, v, a), told[v, a])
                for level in (1, 2, 5, 7, 1000):
                    number = plain_tables.number_row(plain_joins.level_web(web, worths, level), k)[v]
                    self.assertEqual(told[v, a] >= level, a >= number)
                seen[told[v, a], v in web.moving] = True
        self.assertEqual(len(seen), 10)

    def test_stairs(self):
        """[163]"""
        most = 0
        ways = [[1, 3], [0, 2, 4], [1, 5], [], [], []]
        ladder = Web(ways, ways, [1, 2, 1, 1, 1, 1], [None] * 6)
        for web, k, worths in [*cases(), (ladder, 8, (0, 0, 0, 1, 5, 7)), (~ladder, 7, (0, 0, 0, 2, 1, 3))]:
            listed = value_listing(web, k, worths)
            rows = level_rows(web, k, worths)
            for v in range(web.size):
                told = [(0, listed[v][0])] + [(a, listed[v][a]) for a in range(1, k + 1) if listed[v][a] > listed[v][a - 1]]
                found = stairs(web, k, list(worths), v)
                self.assertEqual(found, tuple(told))
                self.assertEqual([purse for purse, _ in found[1:]], sorted({row[v] for _, row in rows if 1 <= row[v] <= k}))
                most = max(most, len(found))
        self.assertGreaterEqual(most, 3)

    def test_facts(self):
        """[162]"""
        for web, k, worths in cases(12):
            now, more = plain_joins.values(web, k, worths), plain_joins.values(web, k + 1, worths)
            rows = level_rows(web, k, worths)
            levels = [0] + [level for level, _ in rows]
            for v, a in plain.states(web, k):
                self.assertTrue(a == 0 or now[v, a] >= now[v, a - 1])
                self.assertTrue(more[v, a] <= now[v, a] <= more[v, a + 1])
            for v in range(web.size):
                told = sum((levels[i + 1] - levels[i]) * (k + 1 - row[v]) for i, (_, row) in enumerate(rows))
                self.assertEqual(sum(now[v, a] for a in range(k + 1)), told)
            for change in ({0: 0, 1: 0, 5: 3, 7: 3, 1000: 4}, {0: 0, 1: 900, 5: 901, 7: 1000, 1000: 1000}):
                other = plain_joins.values(web, k, [change[worth] for worth in worths])
                self.assertEqual(other, {state: change[now[state]] for state in now})
                self.assertEqual(value(web, k, [change[worth] for worth in worths], 0, k), change[now[0, k]])

    def test_listing_at_the_bound(self):
        web = Web([[1, 3], [0, 2], [1, 4, 5], [], [], []], [[1, 4], [0, 3], [1, 5], [], [], []], [1, 2, 2, 1, 1, 1],
                  [("chips", GREAT)] * 6)
        worths = [0, 0, 0, 3, 1000, 7]
        listed = value_listing(web, 8, worths)
        self.assertEqual((len(listed), len(listed[0])), (6, 9))
        for v in range(6):
            for a in range(9):
                self.assertEqual(listed[v][a], value(web, 8, worths, v, a))

    def test_refusals(self):
        purses = NO_INTEGERS + numbers(-1, 5001, 10 ** 50)
        chips = NO_INTEGERS + numbers(-1) + too_much(5001, GREAT)
        worths = [1000, 0, 0, 5]
        self.each_fault(value, [LINE, 5000, worths, 3, 0], [NO_WEBS, chips, WORTHS, STANDS, NO_INTEGERS + numbers(-1, 10 ** 50)])
        self.each_fault(value, [LINE, 3, worths, 3, 3], [NO_WEBS, NO_INTEGERS + numbers(-1, 2), WORTHS, STANDS, purses[:-2]])
        self.each_fault(stairs, [LINE, 5000, worths, 3], [NO_WEBS, chips, WORTHS, STANDS])
        listed = NO_INTEGERS + numbers(-1) + too_much(9, 10 ** 50)
        self.each_fault(value_listing, [LINE, 8, worths], [NO_WEBS, listed, WORTHS])
        seven = Web([[]] * 7, [[]] * 7, [1] * 7, [None] * 7)
        self.refused(TooMuch, value_listing, seven, 8, [0] * 7)
        self.refused(WrongNumber, value_listing, seven, 9, [0] * 6)
        self.refused(WrongNumber, value, LINE, 5001, [0, 0, 0, 1001], 0, 0)
        self.assertEqual(value(LINE, 5, [0] * 4, 1, 5), 0)


class Plans(Refusals):
    def test_they_are_plans_of_the_level(self):
        for web, k, worths in cases(10):
            for level in (1, 5, 6, 1000, 1001):
                leveled = plain_joins.level_web(web, worths, level)
                first, second = exact_plans(leveled, k)
                made, held = WorthPlan(web, k, list(worths), level), HoldPlan(web, k, worths, level)
                self.assertTrue(isinstance(made, FirstPlan) and isinstance(held, SecondPlan))
                self.assertTrue(made.web == leveled and held.web == leveled)
                self.assertEqual((made.row, made.ranks, made.chips), (first.row, first.ranks, k))
                self.assertEqual((held.row, held.chips), (first.row, k))
                for v, a in plain.states(web, k):
                    self.assertEqual((made.claims(v, a), made.falls(v, a), made.steps_left(v, a), made.spare(v, a)),
                                     (first.claims(v, a), first.falls(v, a), first.steps_left(v, a), first.spare(v, a)))
                    if v in web.moving:
                        self.assertEqual((made(v, a), held(v, a)), (first(v, a), second(v, a)))

    def test_what_they_keep(self):
        """[164]: whatever the other hand does."""
        for web, k, worths in cases(10, (2, 3)):
            told = plain_joins.values(web, k, worths)
            for level in sorted({worth for worth in worths if worth}):
                first, second = WorthPlan(web, k, worths, level), HoldPlan(web, k, worths, level)
                for v, a in plain.states(web, k):
                    if told[v, a] >= level:
                        self.assertTrue(self.comes(first, web, worths, v, a, level, k))
                    else:
                        self.assertFalse(self.lost(second, web, worths, v, a, level, set()))

    def comes(self, plan, web, worths, v, a, level, k):
        """True if every play comes to an end of the level; what falls tells that it ends."""
        if not web.first[v]:
            return worths[v] >= level
        p, step = plan(v, a)
        for q in range(k - a + 1):
            gets = plain.first_gets(web, v, p, q)
            for w in [step] if gets else web.second[v]:
                after = a - p if gets else a + q
                if not plan.falls(w, after) < plan.falls(v, a) or not self.comes(plan, web, worths, w, after, level, k):
                    return False
        return True

    def lost(self, plan, web, worths, v, a, level, seen):
        """True if some play comes to an end of the level."""
        if (v, a) in seen:
            return False
        seen.add((v, a))
        if not web.first[v]:
            return worths[v] >= level
        q, step = plan(v, a)
        found = []
        for p in range(a + 1):
            gets = plain.first_gets(web, v, p, q)
            for w in web.first[v] if gets else [step]:
                found.append(self.lost(plan, web, worths, w, a - p if gets else a + q, level, seen))
        return any(found)

    def test_refusals(self):
        chips = NO_INTEGERS + numbers(-1) + too_much(5001, GREAT)
        for made in (WorthPlan, HoldPlan):
            self.each_fault(made, [LINE, 5000, [1000, 0, 0, 5], 1], [NO_WEBS, chips, WORTHS, LEVELS])
            made(LINE, 0, [0] * 4, 10 ** 50)
        check_state_calls(self, HoldPlan(LINE, 1, [5, 0, 0, 0], 5), [])
        plan = WorthPlan(LINE, 1, [5, 0, 0, 0], 5)
        check_state_calls(self, plan, [plan.spare, plan.claims, plan.falls, plan.steps_left])


def duel(web, k, worths, v, a):
    """[164], by its words."""
    sure = plain_joins.values(web, k, worths)[v, a]
    above = [worth for worth in worths if worth > sure]
    first = exact_plans(plain_joins.level_web(web, worths, sure), k)[0] if sure else lambda w, _: (0, min(web.first[w]))
    second = (exact_plans(plain_joins.level_web(web, worths, min(above)), k)[1] if above
              else lambda w, _: (0, min(web.second[w])))
    seen = set()
    while web.first[v] and (v, a) not in seen:
        seen.add((v, a))
        (p, step), (q, other) = first(v, a), second(v, a)
        v, a = (step, a - p) if plain.first_gets(web, v, p, q) else (other, a + q)
    return worths[v], bool(web.first[v])


class Duels(Refusals):
    def test_by_words(self):
        seen = {}
        for web, k, worths in cases():
            told = plain_joins.values(web, k, worths)
            for v, a in plain.states(web, k):
                found, again = duel(web, k, worths, v, a)
                self.assertEqual(worth_duel(web, k, list(worths), v, a), found)
                self.assertEqual(found, told[v, a])
                self.assertTrue(not again or found == 0)
                seen[again, found > 0, web.marks[v]] = True
        self.assertEqual(len(seen), 6)

    def test_at_the_bound(self):
        begin = time.perf_counter()
        web, worths = great_web()
        for purse in (0, 150, 400):
            self.assertEqual(worth_duel(web, 400, worths, 12, purse), value(web, 400, worths, 12, purse))
        for ring in (Web.ring(60), Web.ring(60, 2)):
            self.assertEqual(worth_duel(ring, 400, [0] * 60, 5, 17), 0)
        self.assertLess(time.perf_counter() - begin, 60)

    def test_refusals(self):
        self.each_fault(worth_duel, [LINE, 400, [1000, 0, 0, 5], 3, 0],
                        [NO_WEBS, NO_INTEGERS + numbers(-1) + too_much(401, GREAT), WORTHS, STANDS,
                         NO_INTEGERS + numbers(-1, 10 ** 50)])
        self.each_fault(worth_duel, [LINE, 3, [1000, 0, 0, 5], 1, 3],
                        [NO_WEBS, NO_INTEGERS + numbers(-1, 2), WORTHS, STANDS, NO_INTEGERS + numbers(-1, 4)])


class Far(Refusals):
    def test_tables(self):
        for web, _, worths in cases(10):
            found = level_tables(web, list(worths))
            self.assertEqual([level for level, _ in found], sorted({worth for worth in worths if worth}))
            for level, table in found:
                self.assertTrue(table == Table.least(plain_joins.level_web(web, worths, level)))
            for k in (0, 2, 3):
                told = plain_joins.values(web, k, worths)
                for v, a in plain.states(web, k):
                    for order in list(permutations(found))[:3]:
                        self.assertEqual(far_value([list(pair) for pair in order], k, v, a), told[v, a])

    def test_far(self):
        web, worths = Web([[1, 2], [], []], [[1], [], []], [1, 1, 1], [("chips", GREAT)] * 3), [0, 1, 5]
        tables = level_tables(web, worths)
        for k in (10 ** 12, GREAT - 1, GREAT):
            # The number of the stand 0 for the worth 5 is (k + 1) // 2 if the first hand moves at ties.
            purses = (0, (k + 1) // 2 - 1, (k + 1) // 2, k)
            self.assertEqual([far_value(tables, k, 0, purse) for purse in purses], [1, 1, 5, 5])
            self.assertEqual([far_value(tables, k, v, 0) for v in (1, 2)], [1, 5])
        self.assertEqual(far_value([], GREAT, 10 ** 50, GREAT), 0)
        great = with_due(Web.line(5), 5, ("less", GREAT))
        self.assertEqual([level for level, _ in level_tables(great, [0, 0, 0, 0, 0, 1000])], [1000])
        self.assertEqual(level_tables(great, [0] * 6), ())

    def test_refusals(self):
        self.each_fault(level_tables, [LINE, [1000, 0, 0, 5]], [NO_WEBS, WORTHS])
        ends, seven = Web([[]] * 11, [[]] * 11, [1] * 11, [None] * 11), Web.line(8)
        self.refused(TooMuch, level_tables, ends, [0] * 11)
        self.refused(TooMuch, level_tables, seven, [0] * 9)
        self.refused(WrongNumber, level_tables, ends, [0] * 10)
        self.assertEqual(len(level_tables(Web([[]] * 10, [[]] * 10, [1] * 10, [None] * 10), range_list(10))), 9)
        table = Table.least(LINE)
        good = [(5, table), [1, table]]
        wrong = NO_LISTS + [([good[0], bad], "a") for bad, _ in NO_LISTS] + [
            ([[5]], "a"), ([[5, table, 1]], "a"), ([[table, 5]], "a"), ([[True, table]], "a"), ([[5, LINE]], "a"),
            ([good[0], [0, table]], "c"), ([good[0], [-1, table]], "c"), ([good[0], (7, Table.least(Web.line(2)))], "c")]
        self.each_fault(far_value, [good, GREAT, 3, GREAT],
                        [wrong, NO_INTEGERS + numbers(-1, 5) + too_much(GREAT + 1, 10 ** 50), STANDS,
                         NO_INTEGERS + numbers(-1, GREAT + 1, 10 ** 60)])
        self.refused(WrongNumber, far_value, [], 5, -1, 0)
        self.refused(WrongNumber, far_value, (), 5, 0, 6)
        self.refused(TooMuch, far_value, (), GREAT + 1, 0, 6)
        self.refused(WrongKind, far_value, [(0, None)], -1, 0, 6)
        self.assertRaises(WrongWeb, FirstPlan(LINE, 0, (0, 0, 0, 1), (0, 1, 1, 0)), 0, 0)


def range_list(size):
    return list(range(size))


if __name__ == "__main__":
    unittest.main()
