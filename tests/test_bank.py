"""[121] to [125]: bank dues, bank prices, rounds of the bank and bank numbers."""

import time
import unittest
from itertools import islice, product

from pursewebs.bankrows import bank_due, bank_price, bank_rounds, bank_rows
from pursewebs.builders import chain, with_due
from pursewebs.errors import TooMuch, WrongKind, WrongNumber
from pursewebs.spread import kept_off
from pursewebs.web import Web
from tests import plain, plain_bank
from tests.refusals import NO_DUES, NO_INTEGERS, NO_LISTS, NO_WEBS, WRONG_DUES, Refusals, numbers, too_much

GREAT = 10 ** 40
STANDS = NO_INTEGERS + numbers(-1, 4, 10 ** 50)
LINE = Web.line(3)
ROW = [0, 0, 1, None]
NO_BANK_ROWS = NO_LISTS + [([0, 0, bad, None], "a") for bad in (True, False, "1", 1.0, [1])] + [
    ([], "c"), ([0, 0, 1], "c"), ((0, 0, 1, None, None), "c"), ([0, -1, 1, None], "c"), ([0, 0, -(10 ** 50), None], "c")]
EVERY = Web([list(range(60))] * 60, [list(range(60))] * 60, [1, 2] * 30, [("chips", 3)] + [None] * 59)


def webs(many=30, sizes=(1, 2, 3, 4)):
    dues = [None, None, None, ("chips", 0), ("chips", 0), ("chips", 1), ("chips", 3), ("less", 0), ("less", 2)]
    found = [web for size in sizes for web in plain.some_webs(size, many, 150 + size, dues)]
    return found + [Web.line(3), Web.line(3, 2), chain(2), Web.ring(2)]


def rows_for(size, b, at):
    """Some bank rows for 0 .. b, which need not be those of the bank numbers."""
    def part(j, v):
        number = (at * (j + 2) + v * v + 3 * j * v + 5 * v) % 7
        return None if number == 6 else number
    return [tuple(part(j, v) for v in range(size)) for j in range(b + 1)]


class Prices(Refusals):
    def test_dues(self):
        dues = (None, ("chips", 0), ["chips", 7], ("chips", GREAT), ("less", 0), ["less", GREAT])
        self.assertEqual([bank_due(due) for due in dues], [None, 0, 7, GREAT, None, None])

    def test_prices_by_words(self):
        for at, web in enumerate(webs()):
            for b in range(5):
                for turn in range(4):
                    rows = rows_for(web.size, b, at + turn)
                    for v in range(web.size):
                        told = plain_bank.price(web, rows[:b], rows[b], b, v)
                        self.assertEqual(bank_price(web, [list(row) for row in rows[:b]], rows[b], b, v), told)

    def test_none_at_every_stand(self):
        for web in webs(10):
            nothing = [None] * web.size
            for b in (0, 1, 60):
                told = [plain_bank.price(web, [nothing] * b, nothing, b, v) for v in range(web.size)]
                self.assertEqual([bank_price(web, [nothing] * b, nothing, b, v) for v in range(web.size)], told)
                self.assertEqual(told, [None] * web.size)
        # A first hand that outbids all chips of the other hand need not reach what that hand's moves lead to.
        web = Web([[], [0]], [[], [0]], [1, 1], [None, None])
        other = Web([[], [], [0]], [[], [], [1]], [1, 1, 2], [("chips", 0), None, None])
        self.assertEqual([bank_price(web, [], (None, 4), 0, 1), bank_price(other, [], (0, None, None), 0, 2)], [None, 1])

    def test_great_numbers(self):
        row = (10 ** 50, 0, 10 ** 60, None)
        self.assertEqual(bank_price(LINE, [row] * 60, row, 60, 1), 10 ** 50 + 60)
        self.assertEqual(bank_price(Web.line(3, 2), [row] * 60, row, 60, 1), 10 ** 50 + 61)

    def test_refusals(self):
        self.each_fault(bank_due, [None], [NO_DUES + WRONG_DUES])
        self.each_fault(bank_due, [["chips", GREAT]], [NO_DUES + WRONG_DUES])
        lists = NO_LISTS + [([ROW, bad], letter) for bad, letter in NO_BANK_ROWS] + [
            ([], "c"), ([ROW], "c"), ([ROW] * 3, "c")]
        self.each_fault(bank_price, [LINE, [ROW, (0, 1, 3, None)], ROW, 2, 3],
                        [NO_WEBS, lists, NO_BANK_ROWS, NO_INTEGERS + numbers(-1, 1, 3, 10 ** 50), STANDS])
        self.assertEqual(bank_price(LINE, [ROW] * 60, ROW, 60, 1), plain_bank.price(LINE, [ROW] * 60, ROW, 60, 1))
        self.refused(TooMuch, bank_price, LINE, [ROW] * 61, ROW, 61, 1)
        self.refused(WrongNumber, bank_price, LINE, [ROW] * 60, ROW, 61, 1)
        self.refused(WrongNumber, bank_price, LINE, [ROW] * 61, ROW, 61, 4)
        self.refused(WrongKind, bank_price, LINE, [ROW] * 61, [0, 0, True, None], 61, 4)


class Rows(Refusals):
    def test_numbers_by_moves(self):
        """[121], [122], tried bid by bid, and [124]: a state is of some level exactly if it reaches the number."""
        for at, web in enumerate(webs(25, (1, 2, 3))):
            most_a, most_b = (6, 3) if web.size < 3 else (5, 2)
            told = plain_bank.numbers(web, most_a, most_b)
            for row, by_moves in zip(bank_rows(web, most_b), told):
                shown = tuple(number if number is not None and number <= most_a else None for number in row)
                self.assertEqual(shown, by_moves)

    def test_a_longer_purse_wins_too(self):
        for web in webs(10, (2, 3)):
            won = plain_bank.levels(web, 5, 2)[-1]
            table = bank_rows(web, 2)
            for v, a, b in product(range(web.size), range(6), range(3)):
                number = table[b][v]
                self.assertEqual((v, a, b) in won, number is not None and a >= number)

    def test_rounds_by_words(self):
        for at, web in enumerate(webs()):
            for b in range(4):
                for rows in (rows_for(web.size, b, at)[:b], list(plain_bank.table(web, b)[:b])):
                    told = plain_bank.rounds(web, rows)
                    self.assertEqual(list(bank_rounds(web, [list(row) for row in rows])), told)
                    self.assertEqual(told[0], tuple(bank_due(due) for due in web.dues))
                    for early, late in zip(told, told[1:]):
                        self.assertTrue(all(plain_bank.at_most(one, two) for one, two in zip(late, early)))

    def test_tables_by_words(self):
        for web in webs():
            found = bank_rows(web, 5)
            self.assertEqual(found, plain_bank.table(web, 5))
            self.assertEqual(bank_rows(web, 2), found[:3])
            self.assertEqual([type(found), type(found[0])], [tuple, tuple])

    def test_the_greatest_solution(self):
        """[124]: no bank row that equals its next one is greater at any stand."""
        for web in webs(12, (1, 2)):
            for b in (0, 1):
                table = bank_rows(web, b)
                for row in product([None, 0, 1, 2, 3, 4, 5], repeat=web.size):
                    after = tuple(plain_bank.least([plain_bank.due(web.dues[v]),
                                                    plain_bank.price(web, table[:b], row, b, v)]) for v in range(web.size))
                    if after == row:
                        self.assertTrue(all(plain_bank.at_most(one, two) for one, two in zip(row, table[b])))

    def test_facts(self):
        """[125]"""
        kinds = {}
        for web in webs(60):
            table = bank_rows(web, 7)
            for early, late in zip(table, table[1:]):
                self.assertTrue(all(plain_bank.at_most(one, two) for one, two in zip(early, late)))
            plain_web = Web(web.first, web.second, web.marks,
                            [due if due and due[0] == "chips" else None for due in web.dues])
            off = kept_off(plain_web)
            self.assertEqual(off, plain.kept_off(plain_web))
            for b, row in enumerate(table):
                for v, number in enumerate(row):
                    self.assertEqual(number is None, v in off)
                    self.assertTrue(number is None or number <= web.greatest_due + web.size * (b + 1))
                    kinds[number is None, web.marks[v]] = True
        self.assertEqual(len(kinds), 4)

    def test_no_chips(self):
        self.assertEqual(bank_rows(LINE, 0), ((0, 0, 0, None),))
        self.assertEqual(bank_rows(Web.line(3, 2), 0), ((0, 1, 2, None),))
        self.assertEqual(list(bank_rounds(Web.ring(2), [])), [(None, None)])

    def test_bounds(self):
        begin = time.perf_counter()
        for web in (Web.line(59), Web.line(59, 2), chain(58), Web.ring(60), EVERY):
            table = bank_rows(web, 60)
            self.assertEqual((len(table), len(table[60])), (61, 60))
            last = list(bank_rounds(web, table[:60]))[-1]
            self.assertEqual(last, table[60])
            for v in (0, 1, 30, 59):
                told = plain_bank.least([bank_due(web.dues[v]), plain_bank.price(web, table[:60], table[60], 60, v)])
                self.assertEqual(table[60][v], told)
        self.assertLess(time.perf_counter() - begin, 120)
        million = with_due(LINE, 0, ("chips", 10 ** 6))
        self.assertEqual([row[0] for row in bank_rows(million, 2)], [10 ** 6] * 3)
        self.assertEqual(list(bank_rounds(million, []))[-1], (10 ** 6, 10 ** 6, 10 ** 6, None))

    def test_the_generator_raises_at_its_first_item(self):
        more = with_due(LINE, 0, ("less", 10 ** 6 + 1))
        for args, error in (((None, []), WrongKind), ((LINE, [ROW] * 61), TooMuch), ((more, []), TooMuch),
                            ((LINE, [[0]]), WrongNumber)):
            made = bank_rounds(*args)
            self.refused(error, lambda: next(made))
        self.assertEqual(list(islice(bank_rounds(LINE, ((0, 0, 0, None),)), 2)), [(0, None, None, None), (0, 0, None, None)])

    def test_refusals(self):
        dear = [(with_due(LINE, 3, ("less", 10 ** 6 + 1)), "f"), (with_due(LINE, 1, ("chips", 10 ** 6 + 1)), "f")]
        lists = NO_LISTS + [([ROW, bad], letter) for bad, letter in NO_BANK_ROWS] + [([ROW] * 61, "f")]
        self.each_fault(lambda web, rows: next(bank_rounds(web, rows)), [LINE, [ROW, (0, 1, 3, None)]],
                        [NO_WEBS + dear, lists])
        self.each_fault(bank_rows, [LINE, 3], [NO_WEBS + dear, NO_INTEGERS + numbers(-1) + too_much(61, 10 ** 50)])


if __name__ == "__main__":
    unittest.main()
