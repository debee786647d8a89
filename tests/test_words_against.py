"""[76] and [77]: words of rises, and purses against a fixed number of chips."""

import unittest

from pursewebs.against import purse_against
from pursewebs.builders import chain
from pursewebs.rounds import number_row
from pursewebs.web import Web
from pursewebs.words import ones, word
from tests import plain, plain_tables
from tests.refusals import NO_INTEGERS, NO_WEBS, Refusals, numbers, too_much

STANDS = NO_INTEGERS + numbers(-1, 4, 10 ** 50)
ENDS = Web([[]] * 60, [[]] * 60, [1] * 60, [None, ("chips", 2), ("less", 2)] * 20)


def webs():
    return plain_tables.small_webs(25, 71, (1, 2, 3, 4)) + [Web.line(4), Web.line(4, 2), chain(3), Web.ring(3)]


class Words(Refusals):
    def test_words_by_words(self):
        for web in webs():
            rows = plain_tables.number_rows(web, 14)
            for v in range(web.size):
                told = plain_tables.word(rows, v)
                for many in (0, 1, 2, 9, 14):
                    self.assertEqual(word(web, v, many), told[:many])
                self.assertEqual([sum(told[:k + 1]) for k in range(14)], [row[v] for row in rows])

    def test_sums_by_words(self):
        for web in webs():
            rows = plain_tables.number_rows(web, 12)
            for v in range(web.size):
                told = plain_tables.word(rows, v)
                for start in (0, 1, 2, 5, 12):
                    for many in (0, 1, 2, 7):
                        if start + many <= 12:
                            self.assertEqual(ones(web, v, start, many), sum(told[start:start + many]))

    def test_bounds(self):
        line = Web.line(2)
        told = word(line, 1, 5000)
        self.assertEqual((len(told), told[:4], told[4996:], sum(told)), (5000, (0, 1, 0, 1), (0, 1, 0, 1), 2500))
        self.assertEqual(word(line, 2, 5000), (1,) * 5000)
        self.assertEqual([ones(line, 2, start, many) for start, many in ((0, 5000), (5000, 0), (4999, 1), (1, 4999))],
                         [5000, 0, 1, 4999])
        self.assertEqual([word(ENDS, v, 4) for v in (0, 1, 59)], [(1, 1, 1, 1), (1, 1, 0, 0), (0, 0, 1, 1)])
        self.assertIs(type(word(line, 0, 0)), tuple)

    def test_refusals(self):
        line = Web.line(3)
        self.each_fault(word, [line, 1, 7], [NO_WEBS, STANDS, NO_INTEGERS + numbers(-1) + too_much(5001, 10 ** 50)])
        counts = NO_INTEGERS + numbers(-1, -(10 ** 50)) + too_much(5001, 10 ** 50)
        self.each_fault(ones, [line, 1, 0, 0], [NO_WEBS, STANDS, counts, counts])
        self.each_fault(ones, [line, 1, 2, 4998], [[], [], too_much(3, 4999), too_much(4999, 5000)])


class Against(Refusals):
    def test_purses_by_words(self):
        for web in webs():
            rows = plain_tables.number_rows(web, 15)
            for v in range(web.size):
                before = 0
                for other in range(6):
                    for most in (0, 1, 4, 9):
                        told = plain_tables.purse_against(rows, v, other, most)
                        self.assertEqual(purse_against(web, v, other, most), told)
                    # [77]: every greater purse wins too, and the purse never falls when other grows.
                    found = purse_against(web, v, other, 9)
                    for a in range(10):
                        self.assertEqual(a >= rows[a + other][v], found is not None and a >= found)
                    self.assertTrue(found is None or (before is not None and found >= before))
                    before = found

    def test_by_levels(self):
        for web in plain.some_webs(3, 30, 72):
            for v in range(3):
                for other in (0, 1, 2):
                    won = [a for a in range(4) if (v, a) in plain.levels(web, a + other)[-1]]
                    self.assertEqual(purse_against(web, v, other, 3), min(won, default=None))

    def test_bounds(self):
        line = Web.line(2)
        self.assertEqual([purse_against(line, 1, 2000, most) for most in (2000, 1999, 0)], [2000, None, None])
        self.assertEqual([purse_against(line, v, 0, 0) for v in range(3)], [0, 0, None])
        self.assertEqual([purse_against(line, v, 0, 2000) for v in range(3)], [0, 0, None])
        self.assertEqual([purse_against(ENDS, v, 2000, 2000) for v in (0, 1, 2)], [None, 2, None])
        less = Web([[]], [[]], [1], [("less", 2000)])
        self.assertEqual([purse_against(less, 0, other, 2000) for other in (0, 1998, 1999, 2000)], [0, 0, 0, None])
        self.assertEqual(number_row(line, 4000)[1], 2000)

    def test_refusals(self):
        counts = NO_INTEGERS + numbers(-1) + too_much(2001, 10 ** 50)
        self.each_fault(purse_against, [Web.line(3), 1, 2, 3], [NO_WEBS, STANDS, counts, counts])


if __name__ == "__main__":
    unittest.main()
