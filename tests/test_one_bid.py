"""[16] to [25]: halves, prices, told bids, serving bids and replies."""

import unittest

from pursewebs.bids import first_bid, second_bid
from pursewebs.errors import WrongNumber
from pursewebs.halves import half
from pursewebs.prices import high, low, next_row, price
from pursewebs.serving import first_serving, outcome, reply, second_serving
from pursewebs.web import Web
from tests import plain
from tests.refusals import NO_INTEGERS, NO_ROWS, NO_WEBS, Refusals, numbers, too_much

GREAT = 10 ** 40
WEB = Web([[], [], [0, 1], [1]], [[], [], [1, 0], [2, 1]], [1, 1, 1, 2], [("chips", 0), None, None, None])
STANDS = NO_INTEGERS + numbers(-1, 4, 10 ** 50)
MOVING = STANDS + [(0, "d"), (1, "d")]
LENGTHS = [([], "c"), ((0, 1, 2), "c"), ([0] * 5, "c")]
SPAN = range(-7, 8)


def cases(most=2):
    """Some webs, k, row, stand with steps and purse; all rows with parts in 0 .. k+1 for 3 stands."""
    for mark in (1, 2):
        for first, second in (([0], [1]), ([1, 0], [1]), ([0, 2], [1, 2]), ([0, 1, 2], [0])):
            web = Web([[], [], first], [[], [], second], [1, 1, mark], [("chips", 0), None, None])
            for k in range(most + 1):
                for row in plain.rows(3, k + 1):
                    for purse in range(k + 1):
                        yield web, k, row, 2, purse


def random_cases():
    for number, web in enumerate(plain.some_webs(4, 120, 6)):
        k = number % 6
        row = [(7 * number + 5 * v * v + number * v) % (k + 2) for v in range(4)]
        for stand in web.moving:
            for purse in range(k + 1):
                yield web, k, row, stand, purse


class Half(Refusals):
    def test_by_words(self):
        for x in SPAN:
            for y in SPAN:
                for mark in (1, 2):
                    self.assertEqual(half(mark, x, y), plain.half(mark, x, y))
        self.assertEqual(half(1, GREAT, GREAT + 2), GREAT + 1)
        self.assertEqual([half(1, -1, 0), half(2, -1, 0), half(1, -3, -4), half(2, -3, -4)], [-1, 0, -3, -4])

    def test_never_falls(self):
        for mark in (1, 2):
            for x in SPAN:
                for y in SPAN:
                    self.assertLessEqual(half(mark, x, y), half(mark, x + 1, y))
                    self.assertLessEqual(half(mark, x, y), half(mark, x, y + 1))

    def test_moved(self):
        for mark in (1, 2):
            for x in SPAN:
                for y in SPAN:
                    for i in (-9, -1, 0, 2, 5):
                        self.assertEqual(half(mark, x + i, y + i), half(mark, x, y) + i)
                        for j in (-4, -1, 0, 3):
                            if x <= y and x + 2 * i <= y + 2 * j:
                                self.assertEqual(half(mark, x + 2 * i, y + 2 * j), half(mark, x, y) + i + j)

    def test_both_marks(self):
        for x in SPAN:
            for y in SPAN:
                self.assertEqual(half(2, x, y) - half(1, x, y), (x + y) % 2 if x <= y else y - x)
                for top in (-3, 0, 1, 8):
                    self.assertEqual(half(2, x, y), top - half(1, top - y, top - x))

    def test_refusals(self):
        self.each_fault(half, [1, 5, -2], [NO_INTEGERS + numbers(0, 3, -1, 10 ** 50), NO_INTEGERS, NO_INTEGERS])


class Prices(Refusals):
    def test_by_words(self):
        for web in list(plain.all_webs(2, [None, ("chips", 2)]))[::3] + list(plain.some_webs(4, 200, 7)):
            for row in ([3, 1, 2, 0][:web.size], (-4, 5, 5, GREAT)[:web.size]):
                for k in (0, 3, GREAT):
                    for v in range(web.size):
                        self.assertEqual(price(web, k, row, v), plain.price(web, k, row, v))
                        if v in web.moving:
                            self.assertEqual(low(web, row, v), plain.low(web, row, v))
                            self.assertEqual(high(web, list(row), v), plain.high(web, row, v))
                    self.assertEqual(next_row(web, k, row), plain.next_row(web, k, row))
                    self.assertIs(type(next_row(web, k, row)), tuple)

    def test_great_webs(self):
        ends = Web([[]] * 60, [[]] * 60, [1] * 60, [None] * 60)
        self.assertEqual(next_row(ends, 5, [0] * 60), (6,) * 60)
        ring = Web.ring(60)
        self.assertEqual(next_row(ring, 99, list(range(60))), tuple(range(1, 60)) + (0,))

    def test_the_price_of_the_mirror(self):
        for web, k, row, stand, _ in random_cases():
            for top in (k + 1, 0, -5):
                turned = [top - part for part in row]
                self.assertEqual(price(~web, k, row, stand), top - price(web, k, turned, stand))

    def test_rows_that_grow(self):
        for web in plain.some_webs(4, 150, 8):
            k = 4
            row = [1, 3, 0, 2]
            before = next_row(web, k, row)
            for v in range(4):
                after = next_row(web, k, [part + (v == w) for w, part in enumerate(row)])
                self.assertTrue(all(old <= new for old, new in zip(before, after)))
            after = next_row(web, k, [part + 1 for part in row])
            self.assertTrue(all(old <= new <= old + 1 for old, new in zip(before, after)))

    def test_refusals(self):
        rows = NO_ROWS + LENGTHS
        bounds = NO_INTEGERS + numbers(-1) + too_much(GREAT + 1)
        for call in (low, high):
            self.each_fault(call, [WEB, [0, 1, 9, -1], 2], [NO_WEBS, rows, MOVING])
        self.each_fault(price, [WEB, GREAT, [0, 1, 9, -1], 1], [NO_WEBS, bounds, rows, STANDS])
        self.each_fault(next_row, [WEB, 0, [0, 1, 9, -1]], [NO_WEBS, bounds, rows])


class Bids(Refusals):
    def told(self, web, k, row, v, a):
        lo, hi = plain.low(web, row, v), plain.high(web, row, v)
        one = max(0, hi - a - 1) if web.marks[v] == 1 else max(0, hi - a)
        two = max(0, a - lo + 1) if web.marks[v] == 1 else max(0, a - lo)
        return ((min(one, a), min(w for w in web.first[v] if row[w] == lo)),
                (min(two, k - a), min(w for w in web.second[v] if row[w] == hi)))

    def test_by_words(self):
        for web, k, row, v, a in list(cases()) + list(random_cases()):
            found = (first_bid(web, k, row, v, a), second_bid(web, k, list(row), v, a))
            self.assertEqual(found, self.told(web, k, row, v, a))
            self.assertEqual([type(part) for part in found], [tuple, tuple])

    def test_the_told_bid_is_the_least_that_serves(self):
        for web, k, row, v, a in list(cases()) + list(random_cases()):
            first = plain.first_serving(web, k, row, v, a)
            second = plain.second_serving(web, k, row, v, a)
            if a >= plain.price(web, k, row, v):
                self.assertEqual((first_bid(web, k, row, v, a)[0], second), (first[0], ()))
                self.assertTrue(all(a - p >= plain.low(web, row, v) for p in first
                                    if plain.first_gets(web, v, p, 0)))
            else:
                self.assertEqual((second_bid(web, k, row, v, a)[0], first), (second[0], ()))
            answered = all(any(plain.good_for_first(web, row, v, a, p, q) for p in range(a + 1))
                           for q in range(k - a + 1))
            self.assertEqual(answered, first != ())

    def test_great_numbers(self):
        web = Web.line(3)
        row = (0, 2 * GREAT // 4, GREAT, GREAT + 1)
        self.assertEqual(first_bid(web, GREAT, row, 1, 1), (1, 0))
        self.assertEqual(second_bid(web, GREAT, row, 1, GREAT), (0, 2))
        self.assertEqual(second_bid(web, GREAT, row, 1, 5), (6, 2))

    def test_refusals(self):
        check_row_calls(self, [first_bid, second_bid], GREAT)


def check_row_calls(test, calls, most):
    """The faults of calls that take web, k, row, stand and purse."""
    rows = NO_ROWS + LENGTHS + [([0, 0, 0, -1], "c"), ([0, 0, most + 3, 0], "c")]
    bounds = NO_INTEGERS + numbers(-1) + too_much(most + 1)
    for call in calls:
        test.each_fault(call, [WEB, most, (0, 1, most + 1, 2), 3, 0],
                        [NO_WEBS, bounds, rows, MOVING, NO_INTEGERS + numbers(-1, most + 2)])
        for k, row, purse in ((3, (0, 0, 0, 5), 0), (3, (0, 0, 0, 4), 4), (0, (2, 0, 0, 0), 0), (0, (0, 0, 0, 0), 1)):
            test.refused(WrongNumber, call, WEB, k, row, 3, purse)
            test.refused(WrongNumber, call, WEB, k, row, 0, purse)


class Serving(Refusals):
    def test_outcome(self):
        for web in (Web.line(3), Web.line(3, 2)):
            for a in range(4):
                for p in range(a + 1):
                    for q in range(6):
                        gets = plain.first_gets(web, 1, p, q)
                        self.assertEqual(outcome(web, 1, a, p, q), (1, a - p) if gets else (2, a + q))
        self.assertEqual(outcome(Web.line(3), 2, 10 ** 60, 10 ** 60, 10 ** 60), (1, 0))
        self.assertEqual(outcome(Web.line(3), 2, 0, 0, 10 ** 60), (2, 10 ** 60))

    def test_serving_by_words(self):
        for web, k, row, v, a in list(cases(3)) + list(random_cases()):
            self.assertEqual(first_serving(web, k, row, v, a), plain.first_serving(web, k, row, v, a))
            self.assertEqual(second_serving(web, k, list(row), v, a), plain.second_serving(web, k, row, v, a))

    def test_reply_by_words(self):
        for web, k, row, v, a in list(cases()) + list(random_cases()):
            first = plain.first_serving(web, k, row, v, a)
            for p in range(a + 1):
                least = min([q for q in range(k - a + 1) if not plain.good_for_first(web, row, v, a, p, q)], default=None)
                self.assertEqual(reply(web, k, row, v, a, p), least)
                self.assertEqual(least is None, p in first)

    def test_many_chips(self):
        web = Web.line(3)
        row = (0, 134, 267, 401)
        self.assertEqual(first_serving(web, 400, row, 2, 400), tuple(range(267)))
        self.assertEqual(second_serving(web, 400, row, 1, 0), tuple(range(1, 267)))
        self.assertEqual(first_serving(web, 400, row, 2, 300), plain.first_serving(web, 400, row, 2, 300))
        self.assertEqual(reply(web, 400, row, 2, 100, 100), 0)

    def test_refusals(self):
        check_row_calls(self, [first_serving, second_serving], 400)
        web, row = Web.line(3), (0, 2, 4, 6)
        bounds = NO_INTEGERS + numbers(-1) + too_much(401)
        rows = NO_ROWS + LENGTHS + [([0, 0, 0, -1], "c"), ([0, 0, 403, 0], "c")]
        moving = STANDS + [(0, "d"), (3, "d")]
        purses = NO_INTEGERS + numbers(-1, 402)
        self.each_fault(reply, [web, 400, row, 1, 3, 2],
                        [NO_WEBS, bounds, rows, moving, purses, NO_INTEGERS + numbers(-1, 4, 402)])
        self.each_fault(outcome, [web, 1, 3, 2, 2],
                        [NO_WEBS, moving, NO_INTEGERS + numbers(-1), NO_INTEGERS + numbers(-1, 4),
                         NO_INTEGERS + numbers(-1)])


if __name__ == "__main__":
    unittest.main()
