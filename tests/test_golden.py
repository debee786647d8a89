"""[132] and [133]: the golden row, and bids to the other hand beside bids to a bank."""

import time
import unittest
from itertools import product

from pursewebs.against import purse_against
from pursewebs.bankmeet import bank_against, dearer, hand_against
from pursewebs.bankrows import bank_rows
from pursewebs.builders import with_due
from pursewebs.errors import TooMuch
from pursewebs.golden import golden_number, repeats_until, whole_root
from pursewebs.web import Web
from tests import plain, plain_bank
from tests.refusals import NO_INTEGERS, NO_WEBS, Refusals, numbers, too_much
from tests.test_bank import EVERY, webs

GREAT = 10 ** 40
LINE = Web.line(3)
STANDS = NO_INTEGERS + numbers(-1, 4, 10 ** 50)
DEAR = [(with_due(LINE, 3, ("less", 10 ** 6 + 1)), "f"), (with_due(LINE, 1, ("chips", 10 ** 6 + 1)), "f")]


def is_root(r, number):
    return r * r <= number < (r + 1) * (r + 1)


def golden(b):
    """g of [132], r being looked for from the words."""
    r = 0
    while (r + 1) * (r + 1) <= 5 * b * b:
        r += 1
    return (r - b) // 2


class Golden(Refusals):
    def test_roots(self):
        for number in range(2000):
            self.assertTrue(is_root(whole_root(number), number))
        for base in (10 ** 9, 10 ** 40, 10 ** 700 + 7, 2 ** 52 + 1, 10 ** 1990):
            for number in (base * base - 1, base * base, base * base + 1, base * base + 2 * base):
                self.assertTrue(is_root(whole_root(number), number))
        self.each_fault(whole_root, [7], [NO_INTEGERS + numbers(-1, -(10 ** 50))])

    def test_numbers_by_rounds(self):
        for mark in (1, 2):
            table = bank_rows(Web.line(3, mark), 60)
            for b in range(61):
                for stand in (1, 2):
                    self.assertEqual(golden_number(mark, b, stand), table[b][stand])

    def test_numbers_by_words(self):
        for b in range(120):
            self.assertEqual([golden_number(1, b, 1), golden_number(1, b, 2)], [golden(b), b + golden(b)])
            self.assertEqual([golden_number(2, b, 1), golden_number(2, b, 2)], [golden(b + 1) + 1, b + golden(b + 1) + 2])

    def test_far_numbers(self):
        for b in (10 ** 20, GREAT - 1, GREAT):
            # Of g it holds that it is the greatest g with (2g + b) ** 2 at most 5 * b * b.
            for place, told in ((b, golden_number(1, b, 1)), (b + 1, golden_number(2, b, 1) - 1)):
                self.assertTrue((2 * told + place) ** 2 <= 5 * place ** 2 < (2 * told + 2 + place) ** 2)
            self.assertEqual(golden_number(1, b, 2), b + golden_number(1, b, 1))
            self.assertEqual(golden_number(2, b, 2), b + golden_number(2, b, 1) + 1)

    def test_no_table_can_tell_them(self):
        """[132]: within 3 * period * period the numbers do not go on by one rise."""
        told = [golden(b) for b in range(400)]
        for start, period in product((0, 1, 2, 7, 30), (1, 2, 3, 5, 8, 13, 21, 4, 10)):
            for rise in (0, -1, told[period], told[period] + 1, 10 ** 50):
                b = start
                while told[b + period] == told[b] + rise:
                    b += 1
                self.assertEqual(repeats_until(start, period, rise), b)
                self.assertLessEqual(b, start + 3 * period * period)

    def test_repeats_at_bounds(self):
        begin = time.perf_counter()
        for start, period in ((0, 1), (10 ** 6, 1), (10 ** 6, 1000), (0, 987), (10 ** 6, 987), (3, 610), (0, 1000)):
            low = golden_number(1, period, 1)
            for rise in (low - 1, low, low + 1, low + 2):
                b = repeats_until(start, period, rise)
                self.assertTrue(start <= b <= start + 3 * period * period)
                gains = [golden_number(1, at + period, 1) - golden_number(1, at, 1) for at in (*range(start, b)[-50:], b)]
                self.assertEqual([gain == rise for gain in gains], [True] * (len(gains) - 1) + [False])
        self.assertLess(time.perf_counter() - begin, 30)

    def test_refusals(self):
        pairs = NO_INTEGERS + numbers(0, 3, -1, 10 ** 50)
        self.each_fault(golden_number, [1, GREAT, 2], [pairs, NO_INTEGERS + numbers(-1) + too_much(GREAT + 1), pairs])
        self.each_fault(golden_number, [2, 0, 1], [pairs, NO_INTEGERS + numbers(-1) + too_much(GREAT + 1), pairs])
        starts = NO_INTEGERS + numbers(-1) + too_much(10 ** 6 + 1)
        periods = NO_INTEGERS + numbers(0, -1) + too_much(1001)
        self.each_fault(repeats_until, [10 ** 6, 1000, -(10 ** 50)], [starts, periods, NO_INTEGERS])


class Meeting(Refusals):
    def test_hand_against(self):
        for web in webs(6):
            for stand in range(web.size):
                for b, most in ((0, 0), (3, 2), (2, 9)):
                    self.assertEqual(hand_against(web, stand, b, most), purse_against(web, stand, b, most))
        self.assertEqual(hand_against(LINE, 1, 2000, 2000), 1000)
        bounds = NO_INTEGERS + numbers(-1) + too_much(2001)
        self.each_fault(hand_against, [LINE, 1, 61, 2], [NO_WEBS, STANDS, bounds, bounds])

    def test_bank_against(self):
        for web in webs(8):
            table = plain_bank.table(web, 4)
            for stand in range(web.size):
                self.assertEqual([bank_against(web, stand, b) for b in range(5)], [row[stand] for row in table])
        self.assertEqual(bank_against(EVERY, 0, 60), 3)
        self.assertEqual(bank_against(with_due(LINE, 3, ("less", 10 ** 6)), 3, 60), None)
        self.each_fault(bank_against, [LINE, 1, 3], [NO_WEBS + DEAR, STANDS, NO_INTEGERS + numbers(-1) + too_much(61)])

    def test_dearer(self):
        seen = {}
        for web in webs(20):
            for b, most in ((0, 0), (1, 4), (2, 12), (5, 30)):
                row = plain_bank.table(web, b)[b]
                for stand in range(web.size):
                    hand = purse_against(web, stand, b, most)
                    told = "same" if hand == row[stand] else "bank" if plain_bank.at_most(hand, row[stand]) else "hand"
                    self.assertEqual(dearer(web, stand, b, most), told)
                    seen[told, hand is None, row[stand] is None] = True
        self.assertEqual(sorted(seen)[:3], [("bank", False, False), ("bank", False, True), ("hand", False, False)])
        self.assertTrue(("same", True, True) in seen and ("hand", True, False) in seen)
        self.assertEqual([dearer(LINE, 2, 60, 2000), dearer(LINE, 1, 60, 2000)], ["hand", "bank"])
        # A greater most may change the answer.
        self.assertEqual([dearer(LINE, 1, 9, most) for most in (3, 4)], ["hand", "bank"])

    def test_the_line_of_three(self):
        """[133]"""
        for b in range(61):
            row = bank_rows(LINE, b)[b]
            hand = [hand_against(LINE, stand, b, 200) for stand in (1, 2)]
            self.assertEqual(hand, [b // 2, 2 * b])
            self.assertGreaterEqual(row[1], hand[0])
            self.assertEqual(row[1] > hand[0], b in (5, 7) or b >= 9)
            self.assertEqual(row[2] < hand[1], b >= 1)
            self.assertLessEqual(row[2], hand[1])

    def test_against_no_chips(self):
        """[133]: without dues ("less", x) the bank is not dearer against 0 chips."""
        dues = [None, None, ("chips", 0), ("chips", 1), ("chips", 3)]
        for web in (web for size in (1, 2, 3, 4) for web in plain.some_webs(size, 60, 480 + size, dues)):
            row = bank_rows(web, 0)[0]
            for stand in range(web.size):
                self.assertTrue(plain_bank.at_most(row[stand], purse_against(web, stand, 0, 60)))

    def test_refusals(self):
        self.each_fault(dearer, [LINE, 1, 60, 2000],
                        [NO_WEBS + DEAR, STANDS, NO_INTEGERS + numbers(-1) + too_much(61),
                         NO_INTEGERS + numbers(-1) + too_much(2001)])
        self.refused(TooMuch, dearer, LINE, 1, 61, 5)


if __name__ == "__main__":
    unittest.main()
