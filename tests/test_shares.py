"""[91] to [95], [100] and [101]: share rows, throws, chances, and what tables and plans have to do with them."""

import unittest
from fractions import Fraction

from pursewebs.builders import chain, with_marks
from pursewebs.coins import chance, coin_listing, mean, part, throw_rows
from pursewebs.far import far_plans
from pursewebs.share import Share
from pursewebs.sharerows import share_lower, share_row
from pursewebs.table import Table
from pursewebs.verdict import Verdict
from pursewebs.web import Web
from tests import plain, plain_shares, plain_tables
from tests.refusals import NO_INTEGERS, NO_LISTS, NO_WEBS, Refusals, numbers, too_much
from tests.test_tables import six_webs

GREAT = 10 ** 40
STANDS = NO_INTEGERS + numbers(-1, 4, 10 ** 50)
THROWS = NO_INTEGERS + numbers(-1, -(10 ** 50)) + too_much(61, 10 ** 50)
HALF = Share(1, 2)
NO_SHARES = NO_LISTS + [([HALF, HALF, HALF, bad], "a") for bad in (1, 0, True, None, "1/2", 0.5, (1, 2), Share)] + [
    ([], "c"), ([HALF] * 3, "c"), ((HALF,) * 5, "c")]
EVERY = Web([list(range(60))] * 60, [list(range(60))] * 60, [1, 2] * 30, [("chips", 3)] + [None] * 59)


def webs(many=40):
    return plain_tables.small_webs(many, 111) + [Web.line(n, mark) for n in (2, 3, 4) for mark in (1, 2)] + [
        chain(2), chain(3, 2), Web.ring(3)]


def share_lists(size, many, seed):
    """Rows of shares of either sign and any size."""
    sizes = [Share(0), Share(1), HALF, Share(1, 3), Share(-1, 4), Share(5, 2), Share(GREAT, 7), Share(-GREAT), Share(3, GREAT)]
    return [tuple(sizes[(seed + 7 * at * (v + 1) + v * v + at) % 9] for v in range(size)) for at in range(many)]


class Means(Refusals):
    def test_parts(self):
        web = Web([[]] * 5, [[]] * 5, [1] * 5, [None, ("chips", 0), ("chips", 9), ("less", 0), ("less", 9)])
        self.assertEqual([str(part(web, v)) for v in range(5)], ["1/1", "0/1", "0/1", "1/1", "1/1"])
        self.assertIs(type(part(web, 0)), Share)

    def test_means_by_words(self):
        for at, web in enumerate(webs() + [Web.line(59), EVERY]):
            for row in share_lists(web.size, 4, at):
                for v in range(0, web.size, 1 if web.size < 10 else 17):
                    told = plain_shares.mean(web, plain_shares.fractions(row), v)
                    self.assertEqual(plain_shares.fractions([mean(web, list(row), v)])[0], told)
        self.assertEqual(str(mean(Web.line(3), (Share(0), Share(1, 3), Share(2, 3), Share(1)), 3)), "1/1")
        self.assertEqual(str(mean(Web.line(3), (Share(-5),) * 4, 3)), "1/1")

    def test_lower_by_words(self):
        seen = {}
        for at, web in enumerate(webs()):
            rows = share_lists(web.size, 6, at) + [share_row(web)]
            rows += [tuple(share - Share(1, 7) for share in share_row(web)), tuple(share + 1 for share in share_row(web))]
            for row in rows:
                told = plain_shares.lower_faults(web, plain_shares.fractions(row))
                self.assertTrue(share_lower(web, list(row)) == Verdict(told))
                seen[told] = True
        self.assertGreater(len(seen), 20)
        self.assertEqual(share_lower(Web.ring(60), (Share(1),) * 60).faults, ())
        self.assertEqual(share_lower(Web.ring(60), (Share(9, 8),) * 60).faults, tuple(range(60)))

    def test_refusals(self):
        line = Web.line(3)
        good = [line, [HALF, Share(0), Share(-1), Share(GREAT)], 1]
        self.each_fault(mean, good, [NO_WEBS, NO_SHARES, STANDS])
        self.each_fault(share_lower, good[:2], [NO_WEBS, NO_SHARES])
        self.each_fault(part, [line, 3], [NO_WEBS, STANDS])


class Throws(Refusals):
    def test_rows_by_words(self):
        for web in webs():
            rows = throw_rows(web, 7)
            self.assertEqual([plain_shares.fractions(row) for row in rows], plain_shares.throw_rows(web, 7))
            self.assertEqual((type(rows), type(rows[0]), type(rows[0][0])), (tuple, tuple, Share))
            self.assertEqual([plain_shares.fractions(row) for row in throw_rows(web, 2)],
                             plain_shares.throw_rows(web, 7)[:3])

    def test_chances_by_words(self):
        for web in webs():
            rows = coin_listing(web, 7)
            told = plain_shares.chance_rows(web, 7)
            self.assertEqual([plain_shares.fractions(row) for row in rows], told)
            self.assertEqual((type(rows), type(rows[0]), type(rows[0][0])), (tuple, tuple, Share))
            for throws in (0, 3, 7):
                self.assertEqual(plain_shares.fractions([chance(web, v, throws) for v in range(web.size)]), told[throws])

    def test_the_chance_of_winning_with_coins(self):
        """[94] as a game: each hand's best choice, with heads and tails, tried way by way."""
        for web in plain.some_webs(3, 60, 112):
            told = coin_listing(web, 3)[3]
            for v in range(3):
                self.assertEqual(plain_shares.fractions([told[v]])[0], best_chance(web, v, 3))

    def test_chances_and_throws_make_one(self):
        """[94] and [93]: their sum is 1, and no throw row grows."""
        for web in webs() + [Web.line(59), Web.line(59, 2), Web.ring(60), EVERY]:
            rows, chances = throw_rows(web, 60), coin_listing(web, 60)
            self.assertEqual((len(rows), len(chances)), (61, 61))
            for at in (0, 1, 2, 30, 60):
                self.assertTrue(all((one + two) == Share(1) for one, two in zip(rows[at], chances[at])))
            for before, after in zip(rows, rows[1:]):
                self.assertTrue(all(one.compared(two) >= 0 for one, two in zip(before, after)))

    def test_none_and_sixty(self):
        self.assertEqual([[str(x) for x in row] for row in throw_rows(Web.line(2), 0)], [["0/1", "1/1", "1/1"]])
        self.assertEqual(str(chance(Web.line(2), 1, 0)), "0/1")
        loop = Web([[], [0, 1]], [[], [1]], [1, 1], [("chips", 0), None])
        self.assertEqual(str(chance(loop, 1, 60)), f"{2 ** 60 - 1}/{2 ** 60}")

    def test_refusals(self):
        line = Web.line(3)
        for call in (throw_rows, coin_listing):
            self.each_fault(call, [line, 4], [NO_WEBS, THROWS])
        self.each_fault(chance, [line, 1, 4], [NO_WEBS, STANDS, THROWS])


def best_chance(web, v, throws):
    """The chance of coming to a goal within so many moves of which the first hand can make sure."""
    if plain_shares.is_goal(web, v):
        return Fraction(1)
    if throws == 0 or not web.first[v]:
        return Fraction(0)
    own = max(best_chance(web, w, throws - 1) for w in web.first[v])
    other = min(best_chance(web, w, throws - 1) for w in web.second[v])
    if web.marks[v] == 1:
        return (own + min(own, other)) / 2
    return (other + max(own, other)) / 2


class ShareRows(Refusals):
    def test_the_row_of_the_shares(self):
        """[95]: the shares of the table, whose rows are those of [34]; lesser of part and mean; below all throws."""
        for web in webs() + six_webs()[::6]:
            row = share_row(web)
            table = Table.least(web)
            self.assertTrue(row == tuple(table.share(v) for v in range(web.size)))
            told = plain_shares.fractions(row)
            for v in range(web.size):
                self.assertEqual(told[v], min(plain_shares.part(web, v), plain_shares.mean(web, told, v)))
            for thrown in plain_shares.throw_rows(web, 12):
                self.assertTrue(all(one <= two for one, two in zip(told, thrown)))
            self.assertEqual((plain_shares.lower_faults(web, told), type(row)), ((), tuple))

    def test_numbers_come_near_their_shares(self):
        """[84] by number rows of rounds: the number is near the share of k+1."""
        for web in webs(10):
            row = plain_shares.fractions(share_row(web))
            most = 2 ** len(web.moving) - 1 + web.greatest_due
            for k in (20, 45):
                for number, share in zip(plain_tables.number_row(web, k), row):
                    self.assertLessEqual(abs(number - share * (k + 1)), most)

    def test_every_lower_row_is_below(self):
        """[95], with all rows of parts in sixths and eighths."""
        for web in plain_tables.small_webs(25, 113, (1, 2, 3)):
            told = plain_shares.fractions(share_row(web))
            for bottom in (6, 8):
                for tops in plain.rows(web.size, bottom):
                    row = tuple(Fraction(top, bottom) for top in tops)
                    if not plain_shares.lower_faults(web, row):
                        self.assertTrue(all(one <= two for one, two in zip(row, told)))

    def test_refusals(self):
        ends = Web([[]] * 11, [[]] * 11, [1] * 11, [None] * 11)
        bad = [(web, "f") for web in (ends, chain(7), Web.line(59), Web([[]], [[]], [1], [("less", 10)]))]
        self.each_fault(share_row, [Web.line(3)], [NO_WEBS + bad])


class TablesAndMarks(Refusals):
    def test_told_steps(self):
        """[100]: at k from the start on, the steps of the plans have the greatest and the least share."""
        for web in webs():
            table = Table.least(web)
            row = plain_shares.fractions(share_row(web))
            for k in list(range(table.start, table.start + table.period + 2)) + [10 ** 30, GREAT]:
                first, second = far_plans(table, k)
                for v in web.moving:
                    number = table.number(v, k)
                    if number >= 1:
                        for a in {0, number - 1}:
                            self.assertEqual(row[second(v, a)[1]], plain_shares.high(web, row, v))
                    if number <= k and first.ranks[v] >= 1:
                        for a in {number, k}:
                            self.assertEqual(row[first(v, a)[1]], plain_shares.low(web, row, v))

    def test_marks_of_even_webs(self):
        """[101]"""
        for web in webs():
            even = Web(web.first, web.first, web.marks, web.dues)
            row = share_row(even)
            for told in (with_marks(even, 1), with_marks(even, 2), Web(even.first, even.first, even.marks[::-1], even.dues)):
                self.assertTrue(share_row(told) == row)
        one = Web([[], [], [1]], [[], [], [0]], [1, 1, 1], [("chips", 0), None, None])
        self.assertFalse(share_row(one) == share_row(with_marks(one, 2)))


if __name__ == "__main__":
    unittest.main()
