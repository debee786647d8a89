"""[109] to [114]: token rows, levels with the token, and token bids."""

import unittest
from itertools import islice

from pursewebs.builders import chain, with_due, with_marks
from pursewebs.errors import TooMuch, WrongDeed, WrongKind, WrongNumber, WrongWeb
from pursewebs.rounds import number_row
from pursewebs.tokenbids import token_first, token_second, token_serves
from pursewebs.tokenlisting import token_won
from pursewebs.tokenrows import token_due, token_half, token_price, token_rounds, token_row
from pursewebs.web import Web
from tests import plain, plain_token
from tests.refusals import NO_DUES, NO_INTEGERS, NO_ROWS, NO_WEBS, WRONG_DUES, Refusals, numbers, too_much

GREAT = 10 ** 40
STANDS = NO_INTEGERS + numbers(-1, 4, 10 ** 50)
MOVING = STANDS + [(0, "d"), (3, "d")]
LENGTHS = [([], "c"), ((0, 1, 2), "c"), ([0] * 5, "c")]
UNEVEN = [(Web([[], [], [0], [1]], [[], [], [1], [0]], [1] * 4, [None] * 4), "b"),
          (Web([[], [1]], [[], [0, 1]], [1, 1], [None] * 2), "b")]
CHIPS = NO_INTEGERS + numbers(-1, -(10 ** 50)) + too_much(201, 10 ** 50)
SPAN = range(-9, 10)
LINE = Web.line(3)


def even(web):
    return Web(web.first, web.first, web.marks, web.dues)


def webs(many=25, sizes=(1, 2, 3, 4)):
    found = [even(web) for size in sizes for web in plain.some_webs(size, many, 140 + size)]
    return found + [Web.line(3), Web.line(2, 2), chain(2), Web.ring(2)]


def rows_for(web, k, at):
    """Some rows of half chips, and the token row."""
    most = 2 * (k + 1)
    return [tuple((at * (j + 2) + v * v + 3 * j * v) % (most + 1) for v in range(web.size)) for j in range(4)] + [
        plain_token.token_row(web, k), (0,) * web.size, (most,) * web.size]


class Rows(Refusals):
    def test_token_halves(self):
        for x in SPAN:
            for y in SPAN:
                self.assertEqual(token_half(x, y), plain_token.token_half(x, y))
                self.assertLessEqual(token_half(x, y), min(token_half(x + 1, y), token_half(x, y + 1)))
                for i in (-2, 0, 3):
                    for j in (-1, 0, 5):
                        self.assertEqual(token_half(x + 2 * i, y + 2 * j), token_half(x, y) + i + j)
                for chips in (-3, 0, 4):
                    self.assertEqual(token_half(2 * chips - y, 2 * chips - x), 2 * chips - token_half(x, y))
        self.assertEqual([token_half(-1, 0), token_half(0, -1), token_half(GREAT + 1, GREAT)], [0, -1, GREAT + 1])

    def test_prices_by_words(self):
        for at, web in enumerate(webs()):
            for row in ([(7 * v + at) % 11 - 5 for v in range(web.size)], [GREAT * v - 1 for v in range(web.size)]):
                for v in range(web.size):
                    for k in (0, 4, GREAT):
                        self.assertEqual(token_price(web, k, row, v), plain_token.price(web, k, row, v))
        self.assertEqual(token_price(LINE, 3, (0, 0, 0, 0), 3), 8)

    def test_dues(self):
        for due in (None, ("chips", 0), ["chips", 3], ("less", 2), ("less", 0)):
            for k in (0, 1, 2, 7, 10 ** 50):
                self.assertEqual(token_due(due, k), plain_token.token_due(due, k))

    def test_rounds_by_words(self):
        for at, web in enumerate(webs()):
            for k in (0, 1 + at % 5):
                rows = plain_token.rounds(web, k)
                self.assertEqual(list(token_rounds(web, k)), rows)
                self.assertEqual(token_row(web, k), rows[-1])
                for early, late in zip(rows, rows[1:]):
                    self.assertTrue(all(one >= two for one, two in zip(early, late)))
        self.assertIs(type(token_row(LINE, 2)), tuple)

    def test_the_greatest_solution(self):
        for web in webs(10, (1, 2)):
            row = plain_token.token_row(web, 1)
            for other in plain.rows(web.size, 4):
                after = tuple(min(plain_token.token_due(web.dues[v], 1), plain_token.price(web, 1, other, v))
                              for v in range(web.size))
                if after == other:
                    self.assertTrue(all(one <= two for one, two in zip(other, row)))

    def test_marks_mean_nothing(self):
        for web in webs():
            self.assertEqual(token_row(with_marks(web, 1), 3), token_row(with_marks(web, 2), 3))

    def test_facts(self):
        """[113]"""
        for web in webs(15):
            doubled = Web(web.first, web.first, web.marks, [due and (due[0], 2 * due[1]) for due in web.dues])
            for k in (0, 2, 5):
                row, more = plain_token.token_row(web, k), plain_token.token_row(web, k + 1)
                self.assertEqual((token_row(web, k), token_row(web, k + 1)), (row, more))
                one, two = (number_row(with_marks(web, mark), k) for mark in (1, 2))
                low, high = (number_row(with_marks(doubled, mark), 2 * k + 1) for mark in (1, 2))
                for v, part in enumerate(row):
                    self.assertTrue(part <= more[v] <= part + 2)
                    self.assertTrue(2 * one[v] <= low[v] <= part <= high[v] <= 2 * two[v])
        for k in (0, 1, 30, 200):
            self.assertEqual(token_row(Web.line(2, 2), k), (0, k + 1, 2 * k + 2))

    def test_great_webs(self):
        every = Web([list(range(60))] * 60, [list(range(60))] * 60, [1] * 60, [("chips", 3)] + [None] * 59)
        ends = Web([[]] * 60, [[]] * 60, [1] * 60, [None, ("chips", 2), ("less", GREAT)] * 20)
        for web in (Web.line(59), Web.ring(60), chain(58), every, ends):
            self.assertTrue(plain_token.is_token_row(web, 200, token_row(web, 200)))
        self.assertEqual(list(token_rounds(ends, 200)), [(402, 4, 0) * 20])
        self.assertEqual(list(token_rounds(Web.line(9), 200))[-1], token_row(Web.line(9), 200))

    def test_the_generator_raises_at_its_first_item(self):
        for args, error in (((None, 1), WrongKind), ((LINE, 201), TooMuch), ((UNEVEN[0][0], 201), WrongWeb)):
            made = token_rounds(*args)
            self.refused(error, lambda: next(made))
        made = token_rounds(LINE, 1)
        self.assertEqual(list(islice(made, 2)), [(0, 4, 4, 4), (0, 2, 4, 4)])

    def test_refusals(self):
        self.each_fault(token_half, [1, 2], [NO_INTEGERS, NO_INTEGERS])
        self.each_fault(token_due, [None, 3], [NO_DUES + WRONG_DUES, NO_INTEGERS + numbers(-1)])
        rows = NO_ROWS + LENGTHS
        self.each_fault(token_price, [LINE, GREAT, [-1, 10 ** 50, 0, 0], 3],
                        [NO_WEBS + UNEVEN, NO_INTEGERS + numbers(-1) + too_much(GREAT + 1), rows, STANDS])
        for call in (token_row, lambda *args: next(token_rounds(*args))):
            self.each_fault(call, [LINE, 3], [NO_WEBS + UNEVEN, CHIPS])


class Listing(Refusals):
    def test_levels_by_words(self):
        for at, web in enumerate(webs(12)):
            for k in (0, 1, 2 + at % 2):
                found = plain_token.levels(web, k)
                for steps in (0, 1, 2, len(found) - 1, len(found), 10 ** 30, None):
                    level = found[-1] if steps is None or steps >= len(found) else found[steps]
                    told = tuple(tuple((v, h) in level for h in plain_token.holdings(k)) for v in range(web.size))
                    self.assertEqual(token_won(web, k, steps), told)

    def test_levels_and_rounds(self):
        """[111], [112]: a state is of level j exactly if it reaches row j, and of some level by the token row."""
        for at, web in enumerate(webs(12)):
            k = at % 4
            levels = plain_token.levels(web, k)
            rows = list(token_rounds(web, k))
            self.assertEqual(len(rows), len(levels))
            for level, row in zip(levels, rows):
                self.assertEqual(level, {(v, h) for v in range(web.size) for h in plain_token.holdings(k) if h >= row[v]})

    def test_bounds(self):
        web = Web.line(7)
        row = token_row(web, 6)
        told = token_won(web, 6)
        self.assertEqual(told, tuple(tuple(h >= part for h in range(14)) for part in row))
        self.assertEqual([type(told), type(told[0]), type(told[0][0])], [tuple, tuple, bool])
        self.assertEqual(token_won(Web.ring(8), 6, 10 ** 30), ((False,) * 14,) * 8)
        self.assertEqual(token_won(with_due(Web.ring(8), 0, ("less", 9)), 6, 0)[0], (True,) * 14)

    def test_refusals(self):
        steps = [bad for bad in NO_INTEGERS if bad[0] is not None] + numbers(-1)
        webs = NO_WEBS + UNEVEN + [(Web.line(8), "f")]
        self.each_fault(token_won, [LINE, 2, 3], [webs, NO_INTEGERS + numbers(-1) + too_much(7, GREAT), steps])


class Bids(Refusals):
    def cases(self):
        for at, web in enumerate(webs(15)):
            k = at % 4
            for row in rows_for(web, k, at):
                for v in web.moving:
                    for h in plain_token.holdings(k):
                        yield web, k, row, v, h

    def test_told_bids_by_words(self):
        for web, k, row, v, h in self.cases():
            one, two = plain_token.first_size(web, row, v, h), plain_token.second_size(web, row, v, h)
            told = (min(one // 2, h // 2), one % 2 == 1, plain_token.first_step(web, row, v))
            self.assertEqual(token_first(web, k, list(row), v, h), told)
            told = (min(two // 2, k - h // 2), two % 2 == 1, plain_token.second_step(web, row, v))
            self.assertEqual(token_second(web, k, row, v, h), told)
            self.assertIs(type(token_first(web, k, row, v, h)[1]), bool)

    def test_who_has_a_serving_bid(self):
        """[114]: the told bid serves the one hand, no lesser one does, and none serves the other hand."""
        for web, k, row, v, h in self.cases():
            side = 1 if h >= plain_token.price(web, k, row, v) else 2
            told = (token_first if side == 1 else token_second)(web, k, row, v, h)[:2]
            self.assertIn(told, plain_token.bids(k, h, side))
            for hand in (1, 2):
                for bid in plain_token.bids(k, h, hand):
                    serves = plain_token.serves(web, k, row, v, h, hand, bid)
                    self.assertIs(token_serves(web, k, row, v, h, hand, *bid), serves)
                    if hand != side:
                        self.assertFalse(serves)
                    elif plain_token.size(bid) < plain_token.size(told) or bid == told:
                        self.assertEqual(serves, bid == told)

    def test_many_chips(self):
        row = (0, GREAT, 2 * GREAT, 2 * GREAT + 2)
        self.assertEqual(token_first(LINE, GREAT, row, 2, 2 * GREAT), (1, False, 1))
        self.assertEqual(token_first(LINE, GREAT, row, 2, 2 * GREAT - 1), (1, True, 1))
        self.assertEqual(token_first(LINE, GREAT, row, 2, 2 * GREAT + 1), (0, True, 1))
        self.assertEqual(token_first(LINE, GREAT, row, 2, 0), (0, False, 1))
        self.assertEqual(token_second(LINE, GREAT, row, 1, 2 * GREAT), (0, True, 2))
        self.assertEqual(token_second(LINE, GREAT, row, 1, 0), (0, True, 2))
        web = Web.line(2)
        self.assertTrue(token_serves(web, 200, (0, 201, 402), 1, 201, 1, 100, True))
        self.assertFalse(token_serves(web, 200, (0, 201, 402), 1, 201, 1, 99, True))
        self.assertTrue(token_serves(web, 200, (0, 201, 402), 1, 200, 2, 100, True))
        self.assertFalse(token_serves(web, 200, (0, 201, 402), 1, 200, 2, 100, False))

    def test_the_edges_of_rows_and_holdings(self):
        for row in ((0,) * 4, (4,) * 4, (0, 4, 0, 4)):
            for h in range(4):
                self.assertEqual(token_first(LINE, 1, row, 1, h)[2], plain_token.first_step(LINE, row, 1))

    def test_refusals(self):
        rows = NO_ROWS + LENGTHS + [([0, -1, 0, 0], "c"), ([0, 0, 2 * GREAT + 5, 0], "c")]
        holdings = NO_INTEGERS + numbers(-1, 2 * GREAT + 4)
        bounds = NO_INTEGERS + numbers(-1) + too_much(GREAT + 1)
        for call in (token_first, token_second):
            self.each_fault(call, [LINE, GREAT, [0, 1, 3, 2 * GREAT + 2], 1, 2 * GREAT + 1],
                            [NO_WEBS + UNEVEN, bounds, rows, MOVING, holdings])
        chips = NO_INTEGERS + numbers(-1) + too_much(201)
        no_bools = [(bad, "a") for bad in (0, 1, None, "True", [True])]
        self.each_fault(token_serves, [LINE, 200, [0, 1, 3, 8], 1, 300, 2, 0, False],
                        [NO_WEBS + UNEVEN, chips, rows, MOVING, NO_INTEGERS + numbers(-1, 404),
                         NO_INTEGERS + numbers(0, 3, -1), NO_INTEGERS + numbers(-1, 201), no_bools])
        self.each_fault(token_serves, [LINE, 200, [0, 1, 3, 8], 1, 301, 1, 150, True],
                        [NO_WEBS + UNEVEN, chips, rows, MOVING, NO_INTEGERS + numbers(-1, 404),
                         NO_INTEGERS + numbers(0, 3), NO_INTEGERS + numbers(-1, 201), no_bools])

    def test_bids_that_a_hand_just_has(self):
        row = [0, 1, 3, 8]
        for h in range(10):
            for side, chips in ((1, h // 2), (2, 4 - h // 2)):
                self.assertIsInstance(token_serves(LINE, 4, row, 1, h, side, chips, False), bool)
                self.refused(WrongNumber, token_serves, LINE, 4, row, 1, h, side, chips + 1, False)

    def test_the_token_that_a_hand_does_not_hold(self):
        row = [0, 1, 3, 4]
        for h in range(4):
            for side in (1, 2):
                if (h % 2 == 1) == (side == 1):
                    self.assertIsInstance(token_serves(LINE, 1, row, 1, h, side, 0, True), bool)
                else:
                    self.refused(WrongDeed, token_serves, LINE, 1, row, 1, h, side, 0, True)
        self.refused(WrongDeed, token_serves, LINE, 201, row, 1, 1, 2, 0, True)
        self.refused(WrongWeb, token_serves, LINE, 201, row, 0, 1, 2, 0, True)
        self.refused(TooMuch, token_serves, LINE, 201, row, 1, 1, 2, 0, False)
        self.refused(WrongWeb, token_serves, UNEVEN[0][0], 201, row[:3], 1, 1, 2, 0, True)
        self.refused(WrongKind, token_serves, UNEVEN[0][0], 201, row[:3], 1, 1, 2, 0, 1)


if __name__ == "__main__":
    unittest.main()
