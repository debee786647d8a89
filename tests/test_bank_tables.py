"""[122] and [126] to [131]: listings with the bank, told and serving bids, bank papers and the bank plan."""

import time
import unittest
from itertools import product

from pursewebs.banklisting import bank_won
from pursewebs.bankpaper import bank_falling, bank_lower, bank_upper
from pursewebs.bankplans import BankPlan, bank_first, bank_second, bank_serves
from pursewebs.bankrows import bank_rows
from pursewebs.builders import chain
from pursewebs.errors import TooMuch, WrongKind, WrongNumber, WrongWeb
from pursewebs.plans import Plan
from pursewebs.web import Web
from tests import plain, plain_bank
from tests.refusals import NO_INTEGERS, NO_LISTS, NO_WEBS, Refusals, numbers, too_much
from tests.test_bank import EVERY, NO_BANK_ROWS, rows_for, webs

GREAT = 10 ** 40
LINE = Web.line(3)
ROW = [0, 0, 1, None]
TABLE = [(0, 0, 0, None), [0, 0, 1, None], (0, 1, 3, None)]
RANKS = [(0, 1, 2, 0)] * 3
STANDS = NO_INTEGERS + numbers(-1, 4, 10 ** 50)
MOVING = STANDS + [(0, "d"), (3, "d")]
TABLES = NO_LISTS + [([ROW, bad, ROW], letter) for bad, letter in NO_BANK_ROWS] + [([], "c"), ((), "c")]
LONG = [([ROW] * 62, "f"), ([ROW] * 100, "f")]
RANK_LISTS = NO_LISTS + [([(0, 0, 0, 0), bad, RANKS[0]], "a") for bad, _ in NO_LISTS] + [
    ([RANKS[0], [0, 0, True, 0], RANKS[0]], "a"), ([RANKS[0], [0, 0, None, 0], RANKS[0]], "a"), ([], "c"), (RANKS[:2], "c"),
    (RANKS * 2, "c"), ([RANKS[0], [0, 1, 2], RANKS[0]], "c"), ([RANKS[0], [0, 1, 2, 0, 0], RANKS[0]], "c"),
    ([RANKS[0], [0, -1, 2, 0], RANKS[0]], "c")]


def tables(many=25):
    """Webs with bank tables: those of the bank numbers, and others."""
    for at, web in enumerate(webs(many)):
        yield web, list(bank_rows(web, at % 4))
        for turn in range(2):
            yield web, rows_for(web.size, (at + turn) % 4, at + turn)


def states(web, table, most_a):
    return [(v, a, b) for v in range(web.size) for a in range(most_a + 1) for b in range(len(table))]


class Listing(Refusals):
    def test_by_moves(self):
        for at, web in enumerate(webs(12, (1, 2, 3))):
            most_a, most_b = (at % 5, at % 4) if web.size < 3 else (3, at % 3)
            found = plain_bank.levels(web, most_a, most_b)
            for steps in [None] + list(range(len(found) + 2)) + [10 ** 50]:
                won = found[-1] if steps is None else found[min(steps, len(found) - 1)]
                told = tuple(tuple(tuple((v, a, b) in won for b in range(most_b + 1)) for a in range(most_a + 1))
                             for v in range(web.size))
                self.assertEqual(bank_won(web, most_a, most_b, steps), told)

    def test_it_goes_with_the_bank_numbers(self):
        for web in list(plain.some_webs(6, 6, 77)) + [Web.line(5), Web.line(5, 2), chain(4, 2)]:
            table = bank_rows(web, 9)
            won = bank_won(web, 9, 9)
            self.assertEqual([len(won), len(won[0]), len(won[0][0]), type(won), type(won[0]), type(won[0][0])],
                             [web.size, 10, 10, tuple, tuple, tuple])
            for v, a, b in product(range(web.size), range(10), range(10)):
                self.assertIs(won[v][a][b], plain_bank.reaches(table, v, a, b))

    def test_edges(self):
        self.assertEqual(bank_won(LINE, 0, 0), (((True,),), ((True,),), ((True,),), ((False,),)))
        self.assertEqual(bank_won(LINE, 0, 0, 1), (((True,),), ((True,),), ((False,),), ((False,),)))
        # A due ("less", x) and the due None cannot be paid, great dues can be asked for.
        web = Web([[], [], [0, 1]], [[], [], [0, 1]], [1, 1, 1], [("less", GREAT), ("chips", GREAT), None])
        self.assertEqual(bank_won(web, 1, 0), (((False,), (False,)),) * 3)

    def test_refusals(self):
        great = [(Web.line(6), "f")]
        purses = NO_INTEGERS + numbers(-1) + too_much(10, 10 ** 50)
        steps = [(bad, letter) for bad, letter in NO_INTEGERS if bad is not None] + numbers(-1)
        self.each_fault(bank_won, [LINE, 2, 1, 3], [NO_WEBS + great, purses, purses, steps])
        self.each_fault(bank_won, [LINE, 2, 1], [NO_WEBS + great, purses, purses])


class ToldBids(Refusals):
    def test_by_words(self):
        for web, table in tables():
            for v, a, b in states(web, table, 8):
                if v in web.moving:
                    self.assertEqual(bank_first(web, [list(row) for row in table], v, a, b),
                                     plain_bank.first_told(web, table, table[b], v, a, b))
                    self.assertEqual(bank_second(web, table, v, a, b), plain_bank.second_told(web, table, v, a, b))

    def test_serving_by_replies(self):
        for web, table in tables(12):
            for v, a, b in states(web, table, 5):
                if v in web.moving:
                    for side, most in ((1, a), (2, b)):
                        for bid in range(most + 1):
                            told = plain_bank.serves(web, table, v, a, b, side, bid)
                            self.assertIs(bank_serves(web, table, v, a, b, side, bid), told)

    def test_who_has_a_serving_bid(self):
        """[127], against the table of the bank numbers."""
        kinds = {}
        for web in webs(25):
            table = bank_rows(web, 3)
            for v, a, b in states(web, table, 7):
                if v not in web.moving:
                    continue
                price = plain_bank.price(web, table[:b], table[b], b, v)
                first = [p for p in range(a + 1) if bank_serves(web, table, v, a, b, 1, p)]
                second = [q for q in range(b + 1) if bank_serves(web, table, v, a, b, 2, q)]
                if plain_bank.at_most(price, a):
                    self.assertIn(bank_first(web, table, v, a, b)[0], first)
                    self.assertEqual(second, [])
                else:
                    self.assertIn(bank_second(web, table, v, a, b)[0], second)
                    self.assertEqual(first, [])
                kinds[bool(first), web.marks[v], price is None] = True
        self.assertEqual(len(kinds), 6)

    def test_great_purses(self):
        for web in (LINE, Web.line(3, 2)):
            row = (0, GREAT - 70, GREAT, None)
            table = [row] * 61
            for a in (GREAT - 71, GREAT - 40, GREAT):
                for b in (0, 1, 60):
                    for v in (1, 2):
                        self.assertEqual(bank_first(web, table, v, a, b), plain_bank.first_told(web, table, row, v, a, b))
                        self.assertEqual(bank_second(web, table, v, a, b), plain_bank.second_told(web, table, v, a, b))
            self.assertIs(bank_serves(web, table, 1, GREAT, 60, 1, GREAT), True)
            self.assertIs(bank_serves(web, table, 1, GREAT - 1, 60, 1, GREAT - 1), True)
            self.assertIs(bank_serves(web, table, 2, GREAT, 60, 1, GREAT), False)
            self.assertIs(bank_serves(web, table, 2, GREAT, 60, 2, 0), False)
            self.assertIs(bank_serves(web, table, 2, GREAT - 71, 60, 2, 0), True)
            told = [bank_serves(web, table, 2, GREAT - 65, 60, 2, q) for q in (4, 5, 6, 60)]
            self.assertEqual(told, [False, web.marks[2] == 2, True, True])

    def test_refusals(self):
        args = [LINE, TABLE, 1, GREAT, 2]
        faults = [NO_WEBS, TABLES + LONG, MOVING, NO_INTEGERS + numbers(-1) + too_much(GREAT + 1),
                  NO_INTEGERS + numbers(-1, 3, 10 ** 50)]
        self.each_fault(bank_first, args, faults)
        self.each_fault(bank_second, args, faults)
        sides = NO_INTEGERS + numbers(0, 3, -1, 10 ** 50)
        self.each_fault(bank_serves, [LINE, TABLE, 1, 4, 2, 1, 4], faults + [sides, NO_INTEGERS + numbers(-1, 5, 10 ** 50)])
        self.each_fault(bank_serves, [LINE, TABLE, 1, 4, 2, 2, 2], faults + [sides, NO_INTEGERS + numbers(-1, 3)])
        self.refused(WrongNumber, bank_first, LINE, [ROW] * 62, 1, 3, 62)
        self.refused(TooMuch, bank_first, LINE, [ROW] * 62, 1, 3, 61)
        self.assertEqual(bank_first(LINE, [ROW] * 61, 1, 3, 60), plain_bank.first_told(LINE, [ROW] * 61, ROW, 1, 3, 60))
        self.refused(WrongNumber, bank_second, LINE, [ROW], 1, 3, 1)


class Papers(Refusals):
    def test_by_words(self):
        seen = {}
        for web, table in tables(40):
            self.assertEqual(bank_lower(web, [list(row) for row in table]), plain_bank.lower_faults(web, table))
            found = bank_falling(web, table)
            self.assertEqual(found, plain_bank.falling(web, table))
            self.assertEqual([type(found), type(found[0]), type(found[0][0]), type(found[1])], [tuple] * 4)
            ranked = [[0 if rank is None else rank for rank in row] for row in found[0]]
            for ranks in (ranked, [[(b + v) % 3 for v in range(web.size)] for b in range(len(table))],
                          [[(2 * b + v * v) % 4 for v in range(web.size)] for b in range(len(table))]):
                told = bank_upper(web, table, ranks)
                self.assertEqual(told, plain_bank.upper_faults(web, table, ranks))
                seen[len(told)] = True
        self.assertGreater(len(seen), 5)

    def test_the_table_of_the_bank_numbers(self):
        """[130]"""
        for web in webs(40):
            table = bank_rows(web, 4)
            ranks, rest = bank_falling(web, table)
            self.assertEqual((bank_lower(web, table), rest, bank_upper(web, table, ranks)), ((), (), ()))
            self.assertTrue(all(rank <= len(web.moving) for row in ranks for rank in row))

    def test_both_sides_meet(self):
        """[130], with all tables of few numbers."""
        lower = upper = exact = 0
        parts = [0, 1, 2, 3, None]
        for web in webs(14, (1, 2)):
            if web.size > 2:
                continue
            told = bank_rows(web, 1)
            rows = list(product(parts, repeat=web.size))
            for table in product(rows, rows):
                if not bank_lower(web, table):
                    lower += 1
                    self.assertTrue(all(plain_bank.at_most(table[b][v], told[b][v]) for b in (0, 1) for v in range(web.size)))
                    empty = not bank_falling(web, table)[1]
                    self.assertEqual(empty, table == told)
                    exact += empty
            for table in product(rows[::2], rows[::2]):
                for ranks in list(product(product((0, 1, 2), repeat=web.size), repeat=2))[::3]:
                    if not bank_upper(web, table, ranks):
                        upper += 1
                        self.assertTrue(all(plain_bank.at_most(told[b][v], table[b][v])
                                            for b in (0, 1) for v in range(web.size)))
        self.assertTrue(lower > 200 and upper > 200 and exact > 10)

    def test_one_row_and_sixty_one(self):
        begin = time.perf_counter()
        for web in (Web.line(59), Web.line(59, 2), chain(58), Web.ring(60), EVERY):
            table = bank_rows(web, 60)
            ranks, rest = bank_falling(web, table)
            self.assertEqual((bank_lower(web, table), rest, bank_upper(web, table, ranks)), ((), (), ()))
            one = bank_falling(web, table[:1])
            self.assertEqual(one, ((ranks[0],), ()))
            zeros = [[0] * 60] * 61
            self.assertEqual(bank_lower(web, zeros), ())
            self.assertEqual(bank_falling(web, zeros)[1] == (), table == ((0,) * 60,) * 61)
        self.assertLess(time.perf_counter() - begin, 120)

    def test_refusals(self):
        for call in (bank_lower, bank_falling):
            self.each_fault(call, [LINE, TABLE], [NO_WEBS, TABLES + LONG])
            self.refused(TooMuch, call, LINE, [ROW] * 62)
            call(LINE, [ROW] * 61)
            call(LINE, ([None, 10 ** 50, None, 0],))
        for call in (bank_upper, BankPlan):
            self.each_fault(call, [LINE, TABLE, RANKS], [NO_WEBS, TABLES, RANK_LISTS])
            call(LINE, [ROW] * 61, [(0, 10 ** 50, 0, 0)] * 61)
            self.refused(TooMuch, call, LINE, [ROW] * 62, [[0] * 4] * 62)
            self.refused(WrongNumber, call, LINE, [ROW] * 62, [[0] * 4] * 61)
            self.refused(WrongNumber, call, LINE, [ROW] * 62, [[0] * 4] * 61 + [[0, 0, -1, 0]])
            self.refused(WrongKind, call, LINE, [ROW] * 62, [[0] * 4] * 61 + [[0, 0, True, 0]])


class Plans(Refusals):
    def ranked(self):
        for web, table in tables(20):
            ranks, _ = bank_falling(web, table)
            yield web, table, [[0 if rank is None else rank for rank in row] for row in ranks]
            yield web, table, [[(b + 2 * v) % 3 for v in range(web.size)] for b in range(len(table))]

    def test_by_words(self):
        for web, table, ranks in self.ranked():
            plan = BankPlan(web, [list(row) for row in table], ranks)
            self.assertTrue(plan.web == web and not isinstance(plan, Plan))
            self.assertEqual((plan.rows, plan.ranks), (tuple(map(tuple, table)), tuple(map(tuple, ranks))))
            for v, a, b in states(web, table, 7):
                due = plain_bank.due(web.dues[v])
                self.assertIs(plan.claims(v, a, b), ranks[b][v] == 0 and due is not None and a >= due)
                falls = (b, table[b][v] - a, ranks[b][v]) if plain_bank.reaches(table, v, a, b) else None
                self.assertEqual(plan.falls(v, a, b), falls)
                if v in web.moving:
                    self.assertEqual(plan(v, a, b), plain_bank.plan(web, table, ranks, v, a, b))

    def test_what_the_plan_keeps(self):
        """[131], with tables that are upper: the bank numbers, and greater ones."""
        seen = 0
        for web in webs(25):
            table = bank_rows(web, 3)
            more = [[plain_bank.plus(2 + b // 2, part) for part in row] for b, row in enumerate(table)]
            for rows in (table, more):
                ranks = plain_bank.falling(web, rows)[0]
                if not any(None in row for row in ranks) and not plain_bank.upper_faults(web, rows, ranks):
                    seen += 1
                    self.check_plan(web, rows, ranks)
        self.assertGreater(seen, 100)

    def check_plan(self, web, rows, ranks):
        plan = BankPlan(web, rows, ranks)
        most = max(rank for row in ranks for rank in row)
        for v, a, b in states(web, rows, 8):
            if not plain_bank.reaches(rows, v, a, b):
                continue
            if ranks[b][v] == 0:
                self.assertIs(plan.claims(v, a, b), True)
                continue
            self.assertLessEqual(self.longest(plan, web, v, a, b), most * (a + 1) * (b + 1))
            p, step = plan(v, a, b)
            for q in range(b + 1):
                gets = plain.first_gets(web, v, p, q)
                for w in [step] if gets else web.second[v]:
                    after = (w, a - p, b) if gets else (w, a, b - q)
                    self.assertTrue(plain_bank.reaches(rows, *after))
                    self.assertLess(plan.falls(*after), plan.falls(v, a, b))

    def longest(self, plan, web, v, a, b):
        if plan.claims(v, a, b):
            return 0
        p, step = plan(v, a, b)
        found = []
        for q in range(b + 1):
            gets = plain.first_gets(web, v, p, q)
            for w in [step] if gets else web.second[v]:
                found.append(1 + self.longest(plan, web, *((w, a - p, b) if gets else (w, a, b - q))))
        return max(found)

    def test_a_plan_lives_on_its_own(self):
        rows, ranks = [list(row) for row in TABLE], [list(row) for row in RANKS]
        plan = BankPlan(LINE, rows, ranks)
        rows[0][1] = ranks[0][1] = 7
        self.assertEqual((plan.rows[0], plan.ranks[0]), ((0, 0, 0, None), (0, 1, 2, 0)))
        told = {(v, a, b): plan(v, a, b) for v in (1, 2) for a in range(5) for b in range(3)}
        for state in reversed(list(told)):
            self.assertEqual(plan(*state), told[state])
        self.assertEqual(plan.falls(2, GREAT, 2), (2, 3 - GREAT, 2))
        self.assertIsNone(plan.falls(3, GREAT, 2))

    def test_refusals(self):
        plan = BankPlan(LINE, TABLE, RANKS)
        purses = NO_INTEGERS + numbers(-1) + too_much(GREAT + 1)
        places = NO_INTEGERS + numbers(-1, 3, 10 ** 50)
        self.each_fault(plan, [1, GREAT, 2], [MOVING, purses, places])
        for call in (plan.claims, plan.falls):
            self.each_fault(call, [0, GREAT, 2], [STANDS, purses, places])
        self.refused(WrongWeb, plan, 3, GREAT + 1, 2)
        self.assertEqual((plan.web == LINE, plan.rows[1]), (True, tuple(ROW)))


if __name__ == "__main__":
    unittest.main()
