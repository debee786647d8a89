"""[115] to [119]: token papers, falling out with the token, the token plan, and token tables."""

import time
import unittest
from itertools import product

from pursewebs.builders import chain, with_due
from pursewebs.errors import WrongDeed, WrongNumber, WrongWeb
from pursewebs.plans import Plan
from pursewebs.table import Table
from pursewebs.tokenpaper import TokenPlan, token_falling, token_lower, token_upper
from pursewebs.tokenrows import token_row
from pursewebs.tokentable import token_table, token_told
from pursewebs.verdict import Verdict
from pursewebs.web import Web
from tests import plain, plain_token
from tests.refusals import NO_INTEGERS, NO_LISTS, NO_ROWS, NO_WEBS, Refusals, numbers, too_much
from tests.test_tables import six_webs
from tests.test_tokens import LENGTHS, LINE, MOVING, STANDS, UNEVEN, even, rows_for, webs

GREAT = 10 ** 40
FAR = (10 ** 30, 10 ** 30 + 7, 10 ** 39 + 4, GREAT - 1, GREAT)
BOUNDS = NO_INTEGERS + numbers(-1, -(10 ** 50)) + too_much(10 ** 50, GREAT + 1)


def cases(many=15):
    for at, web in enumerate(webs(many)):
        k = at % 4
        for row in rows_for(web, k, at):
            yield at, web, k, row


def rank_lists(size, at):
    """Some lists of two ranks for each stand."""
    pairs = [(0, 0), (0, 1), (1, 1), (0, 3), (1, 2), (2, 2), (2, 5), (7, 10 ** 50)]
    return [[pairs[(at + j * (v + 1) + v * v) % 8] for v in range(size)] for j in range(4)] + [[(0, 0)] * size]


def ranked_cases(many=12):
    """Webs with k, a row and ranks: the token row with its ranks, and others."""
    for at, web, k, row in cases(many):
        yield web, k, row, [pair or (0, 2) for pair in plain_token.falling(web, k, row)[0]]
        for ranks in rank_lists(web.size, at)[:3]:
            yield web, k, row, ranks


def upper_cases():
    """Webs with k and rows with ranks that are token upper, as far as small ones go."""
    for at, web in enumerate(webs(15)):
        k = at % 3
        row = plain_token.token_row(web, k)
        yield web, k, row, plain_token.falling(web, k, row)[0]
    pairs = [(0, 0), (0, 1), (1, 1), (1, 2), (2, 2)]
    for web in [web for web in webs(8, (2,)) if web.size == 2]:
        for row in plain.rows(2, 4):
            for ranks in product(pairs, repeat=2):
                if not plain_token.upper_faults(web, 1, row, ranks):
                    yield web, 1, row, ranks


class Papers(Refusals):
    def test_lower_rows_by_words(self):
        for _, web, k, row in cases():
            self.assertTrue(token_lower(web, k, list(row)) == Verdict(plain_token.lower_faults(web, k, row)))

    def test_upper_rows_by_words(self):
        seen = {}
        for web, k, row, ranks in ranked_cases():
            told = plain_token.upper_faults(web, k, row, ranks)
            self.assertTrue(token_upper(web, k, row, [list(pair) for pair in ranks]) == Verdict(told))
            seen[told] = True
        self.assertGreater(len(seen), 8)

    def test_falling_by_words(self):
        for _, web, k, row in cases():
            found = token_falling(web, k, list(row))
            self.assertEqual(found, plain_token.falling(web, k, row))
            self.assertEqual([type(found), type(found[0]), type(found[1])], [tuple] * 3)
            self.assertTrue(all(pair is None or type(pair) is tuple for pair in found[0]))

    def test_both_sides_meet(self):
        """[117], with all rows and many ranks of webs with 2 stands, the token row by rounds."""
        pairs = [(0, 0), (0, 1), (1, 1), (1, 2), (2, 2), (1, 3)]
        lower = upper = 0
        for web in webs(20, (1, 2)):
            if web.size > 2:
                continue
            for k in (0, 1):
                told = plain_token.token_row(web, k)
                for row in plain.rows(web.size, 2 * (k + 1)):
                    if bool(token_lower(web, k, row)):
                        lower += 1
                        self.assertTrue(all(one <= two for one, two in zip(row, told)))
                        self.assertEqual(token_falling(web, k, row)[1] == (), row == told)
                    for ranks in product(pairs, repeat=web.size):
                        if bool(token_upper(web, k, row, ranks)):
                            upper += 1
                            self.assertTrue(all(one >= two for one, two in zip(row, told)))
        self.assertTrue(lower > 100 and upper > 500)

    def test_the_token_row(self):
        for at, web in enumerate(webs(30)):
            k = at % 5
            row = plain_token.token_row(web, k)
            ranks, rest = token_falling(web, k, row)
            self.assertEqual((token_lower(web, k, row).faults, rest, token_upper(web, k, row, ranks).faults), ((), (), ()))
            self.assertTrue(all(pair[1] <= 2 * len(web.moving) for pair in ranks))

    def test_far_and_great(self):
        great = Web.line(59)
        row = token_row(great, 9)
        ranks, rest = token_falling(great, 9, row)
        self.assertEqual((rest, token_upper(great, 9, row, ranks).faults), ((), ()))
        for k in FAR:
            self.assertEqual(token_falling(Web.line(2), k, (0, k + 1, 2 * k + 2))[1], ())
            self.assertEqual(token_falling(Web.line(2), k, (0, 0, 2 * k + 2)), (((0, 0), None, (0, 0)), (1,)))
            self.assertEqual(token_lower(Web.line(2), k, (0, k + 2, 2 * k + 2)).faults, (1,))
        self.assertEqual(token_falling(Web.ring(60), 0, (2,) * 60), (((0, 0),) * 60, ()))

    def test_refusals(self):
        rows = NO_ROWS + LENGTHS + [([0, -1, 0, 0], "c"), ([0, 0, 2 * GREAT + 5, 0], "c")]
        good = [LINE, GREAT, [0, 1, 3, 2 * GREAT + 2]]
        for call in (token_lower, token_falling):
            self.each_fault(call, good, [NO_WEBS + UNEVEN, BOUNDS, rows])
        self.each_fault(token_upper, good + [[[0, 0], (1, 3), [0, 2], [0, 10 ** 50]]],
                        [NO_WEBS + UNEVEN, BOUNDS, rows, RANKS])
        for call in (token_lower, token_falling):
            self.refused(WrongNumber, call, LINE, -1, [0] * 4)
        for call in (token_upper, TokenPlan):
            self.refused(WrongNumber, call, LINE, -1, [0] * 4, [(0, 0)] * 4)


RANKS = NO_LISTS + [([(0, 0), (0, 0), (0, 0), bad], "a") for bad, _ in NO_ROWS] + [
    ([], "c"), ([(0, 0)] * 3, "c"), ([(0, 0)] * 5, "c"), ([(0, 0), (0, 0), (0,), (0, 0)], "c"),
    ([(0, 0), (0, 0), (0, 0, 0), (0, 0)], "c"), ([(0, 0), (0, 0), (), (0, 0)], "c"),
    ([(0, 0), (0, 0), (1, 0), (0, 0)], "c"), ([(0, 0), (0, 0), (-1, 0), (0, 0)], "c"),
    ([(0, 0), (0, 0), (-2, -1), (0, 0)], "c")]


class Plans(Refusals):
    def test_what_a_plan_tells_by_words(self):
        for web, k, row, ranks in ranked_cases():
            plan = TokenPlan(web, k, list(row), [list(pair) for pair in ranks])
            self.assertTrue(plan.web == web and isinstance(plan, Plan))
            self.assertEqual((plan.chips, plan.row, plan.ranks), (k, tuple(row), tuple(map(tuple, ranks))))
            for v in range(web.size):
                for h in plain_token.holdings(k):
                    e, rank = h - row[v], plain_token.rank(row, ranks, v, h)
                    if v in web.moving:
                        self.assertEqual(plan(v, h), plain_token.plan(web, k, row, ranks, v, h))
                    claims = e >= 0 and rank == 0 and h >= plain_token.token_due(web.dues[v], k)
                    self.assertIs(plan.claims(v, h), claims)
                    self.assertEqual(plan.spare(v, h), e)
                    self.assertEqual(plan.falls(v, h), None if e < 0 else (k - e // 2, rank))

    def test_what_a_plan_keeps(self):
        """[118], against every bid and every step of the second hand."""
        upper = 0
        for web, k, row, ranks in upper_cases():
            plan = TokenPlan(web, k, row, ranks)
            upper += 1
            for v in range(web.size):
                for h in range(row[v], 2 * k + 2):
                    if plan.falls(v, h)[1] == 0:
                        self.assertTrue(plan.claims(v, h))
                        continue
                    p, takes, step = plan(v, h)
                    self.assertIn((p, takes), plain_token.bids(k, h, 1))
                    for two in plain_token.bids(k, h, 2):
                        hand, after = plain_token.behind(h, (p, takes), two)
                        for w in (step,) if hand == 1 else web.second[v]:
                            self.assertGreaterEqual(after, row[w])
                            self.assertLess(plan.falls(w, after), plan.falls(v, h))
        self.assertGreater(upper, 150)

    def test_many_chips(self):
        row = (0, GREAT + 1, 2 * GREAT + 2)
        ranks, _ = token_falling(Web.line(2), GREAT, row)
        plan = TokenPlan(Web.line(2), GREAT, row, ranks)
        h = GREAT + 1
        self.assertEqual((plan(1, h), plan.spare(1, h), plan.claims(1, h)), ((GREAT // 2, True, 0), 0, False))
        self.assertEqual((plan.claims(0, 0), plan.claims(2, 2 * GREAT + 1), plan.falls(1, GREAT)), (True, False, None))

    def test_equal_answers(self):
        plan = TokenPlan(LINE, 1, (0, 1, 3, 4), ((0, 0), (1, 3), (0, 2), (0, 0)))
        told = [plan(2, 3), plan(1, 2), plan.falls(2, 3)]
        self.assertEqual([plan(2, 3), plan(1, 2), plan.falls(2, 3)], told)
        ranks = [[0, 0], [1, 3], [0, 2], [0, 0]]
        plan = TokenPlan(LINE, 1, (0, 1, 3, 4), ranks)
        ranks[1][0] = 9
        self.assertEqual(plan.ranks[1], (1, 3))

    def test_refusals(self):
        rows = NO_ROWS + LENGTHS + [([0, -1, 0, 0], "c"), ([0, 0, 2 * GREAT + 5, 0], "c")]
        good = [LINE, GREAT, [0, 1, 3, 2 * GREAT + 2], [[0, 0], (1, 3), [0, 2], [0, 10 ** 50]]]
        self.each_fault(TokenPlan, good, [NO_WEBS + UNEVEN, BOUNDS, rows, RANKS])
        plan = TokenPlan(LINE, 3, (0, 1, 3, 8), ((0, 0), (1, 3), (0, 2), (0, 0)))
        holdings = NO_INTEGERS + numbers(-1, 8, GREAT)
        self.each_fault(lambda stand, h: plan(stand, h), [1, 7], [MOVING, holdings])
        for call in (plan.spare, plan.claims, plan.falls):
            self.each_fault(call, [3, 7], [STANDS, holdings])
        self.refused(WrongDeed, Plan(LINE, 3, (0,) * 4), 1, 1)


def table_webs():
    return webs(40, (1, 2, 3, 4, 5)) + [even(web) for web in six_webs()[::10]] + late_webs()


def late_webs():
    """Webs whose least start hangs on how far the steps with the least and the greatest slope are from the others."""
    told = [([[], [], [], [0, 1, 2, 3]], [("less", 1), ("chips", 0), None, None]),
            ([[0, 1, 2, 3], [], [], []], [None, ("chips", 0), ("chips", 1), None]),
            ([[], [1, 2, 3], [], [0, 1, 2, 3]], [("chips", 1), None, ("less", 4), None]),
            ([[], [1, 2, 3], [0, 1, 2, 3], []], [None, None, None, ("chips", 0)])]
    return [Web(ways, ways, [1, 2, 2, 1], dues) for ways, dues in told]


def is_small(web):
    return len(web.moving) <= 6 and web.greatest_due <= 9


class Tables(Refusals):
    def test_the_least_of_all_token_tables(self):
        """[119]: every lesser start with every period, and every lesser period, tried by its words."""
        for web in table_webs():
            if not is_small(web) or len(web.moving) > 3:
                continue
            start, period, slopes, told = token_table(web)
            rows = [plain_token.token_row(web, k) for k in range(start + 2 * period + 1)]
            self.assertEqual(told, tuple(rows[:start + period]))
            self.assertEqual(slopes, tuple(late - early for early, late in zip(rows[start], rows[start + period])))
            found = [(begin, many) for begin in range(start + 1) for many in range(1, period + 1)
                     if plain_token.is_table(web, begin, many, rows)]
            self.assertEqual(found, [(start, period)])

    def test_late_starts(self):
        self.assertEqual([token_table(web)[0] for web in late_webs()], [1, 1, 8, 3])

    def test_the_table_of_the_numbers(self):
        """[119]: the same period and twice the slopes."""
        for web in table_webs():
            if is_small(web):
                table = Table.least(web)
                start, period, slopes, rows = token_table(web)
                self.assertEqual((period, slopes), (table.period, tuple(2 * slope for slope in table.slopes)))
                self.assertEqual((len(rows), type(rows), type(rows[0]), type(slopes)), (start + period, tuple, tuple, tuple))

    def test_it_tells_the_token_row_at_every_k(self):
        for web in table_webs():
            if is_small(web):
                found = token_table(web)
                for k in list(range(0, found[0] + 2 * found[1], 1 + found[1] // 3)) + list(FAR):
                    row = token_told(web, found, k)
                    self.assertTrue(plain_token.is_token_row(web, k, row))
                    if k < 12:
                        self.assertEqual(row, plain_token.token_row(web, k))

    def test_in_a_short_time(self):
        longest = 0
        ways = [[], [], [0, 3], [2, 4], [2, 5], [2, 6], [2, 7], [2, 1]]
        slow = [Web(ways, ways, [1] * 8, dues + (None,) * 6)
                for dues in ((("chips", 0), None), (("chips", 9), ("less", 9)))]
        for web in [even(web) for web in six_webs()[::3]] + [chain(6), Web.line(7), Web.line(6)] + slow:
            begin = time.perf_counter()
            found = token_table(web)
            longest = max(longest, time.perf_counter() - begin)
            self.assertTrue(plain_token.is_token_row(web, GREAT, token_told(web, found, GREAT)))
        self.assertLess(longest, 5)

    def test_what_is_told_by_words(self):
        for start in range(3):
            for period in (1, 2, 3):
                many = start + period
                rows = [[(k * v + v) % (2 * k + 3) for v in range(4)] for k in range(many)]
                found = [start, period, [0, 1, 10 ** 50, 3], rows]
                for k in list(range(12)) + [GREAT]:
                    j, place = (0, k) if k < many else ((k - start) // period, start + (k - start) % period)
                    told = token_told(LINE, found, k)
                    self.assertEqual(told, tuple(part + j * slope for part, slope in zip(rows[place], found[2])))
                    self.assertIs(type(told), tuple)
        great = Web.line(59)
        self.assertEqual(token_told(great, (0, 1, [2] * 60, [[0] * 60]), GREAT), (2 * GREAT,) * 60)

    def test_refusals(self):
        ends = Web([[]] * 11, [[]] * 11, [1] * 11, [None] * 11)
        great = [(web, "f") for web in (ends, chain(7), Web.line(8), with_due(LINE, 1, ("less", 10)), Web.line(59))]
        self.each_fault(token_table, [LINE], [NO_WEBS + UNEVEN + great])
        seven = Web([[0]] * 11, [[0, 1]] * 11, [1] * 11, [None] * 11)
        self.refused(WrongWeb, token_table, seven)
        rows = [[0, 1, 2, 2], (0, 2, 3, 4)]
        good = [1, 1, [0, 1, 2, 2], rows]
        parts = [NO_INTEGERS + numbers(-1, 0, 2), NO_INTEGERS + numbers(0, -1, 2, 10 ** 50),
                 NO_ROWS + LENGTHS + [([0, -1, 0, 0], "c")],
                 NO_LISTS + [([rows[0], bad], "a") for bad, _ in NO_ROWS] + [
                     ([], "c"), (rows[:1], "c"), (rows * 2, "c"), ([rows[0], [0, 1, 2]], "c"),
                     ([rows[0], [0, 1, 2, 2, 2]], "c"), ([[0, 1, 3, 2], rows[1]], "c"), ([rows[0], [0, 5, 2, 2]], "c"),
                     ([rows[0], [0, -1, 2, 2]], "c")]]
        changed = [(good[:at] + [bad] + good[at + 1:], letter) for at, faults in enumerate(parts) for bad, letter in faults]
        wrong = NO_LISTS + [([], "a"), (good[:3], "a"), (good + [0], "a"), (good * 2, "a")] + changed
        self.each_fault(token_told, [LINE, good, GREAT], [NO_WEBS + UNEVEN, wrong, BOUNDS])
        self.refused(WrongNumber, token_told, LINE, [0, 1, [0] * 4, [[0, 0, 0, 3]]], 0)
        # The number of rows fits these starts and periods, but they are out of their ranges.
        for start, period in ((-1, 3), (2, 0), (3, -1), (-2, 4)):
            self.refused(WrongNumber, token_told, LINE, [start, period, good[2], rows], 0)
        self.assertEqual(token_told(LINE, (0, 1, (0,) * 4, ((0, 0, 0, 2),)), 0), (0, 0, 0, 2))


if __name__ == "__main__":
    unittest.main()
