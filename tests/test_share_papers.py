"""[96] to [99] and [102]: falling out of shares, equations, speed, and the numbers of lines."""

import unittest
from fractions import Fraction

from pursewebs.builders import chain
from pursewebs.errors import TooMuch, WrongNumber, WrongWeb
from pursewebs.rowwebs import row_number
from pursewebs.share import Share
from pursewebs.sharepaper import share_exact, share_rest
from pursewebs.sharerows import share_row
from pursewebs.solving import determinant, solved, used_steps
from pursewebs.speed import gap_bound, speed_bound
from pursewebs.table import Table
from pursewebs.web import Web
from tests import plain, plain_shares, plain_tables
from tests.refusals import NO_INTEGERS, NO_LISTS, NO_WEBS, Refusals, numbers, too_much
from tests.test_shares import EVERY, NO_SHARES, THROWS, share_lists, webs
from tests.test_tables import six_webs

GREAT = 10 ** 40


def fitting_rows(web):
    """All rows of the shares 0 .. 1 with bottoms up to 2 ** u that are the lesser of part and mean."""
    most = 2 ** len(web.moving)
    parts = sorted({Fraction(top, bottom) for bottom in range(1, most + 1) for top in range(bottom + 1)})
    found = [()]
    for v in range(web.size):
        told = [plain_shares.part(web, v)] if v in web.ends else parts
        found = [row + (one,) for row in found for one in told]
    return [row for row in found if all(row[v] == min(plain_shares.part(web, v), plain_shares.mean(web, row, v))
                                        for v in range(web.size))]


class Falling(Refusals):
    def test_rests_by_words(self):
        rests = {}
        for at, web in enumerate(webs()):
            rows = share_lists(web.size, 4, at) + [share_row(web), (Share(0),) * web.size, (Share(1),) * web.size]
            rows += [tuple(share.halved() for share in share_row(web))]
            for row in rows:
                told = plain_shares.rest(web, plain_shares.fractions(row))
                found = share_rest(web, list(row))
                self.assertEqual(found, told)
                self.assertEqual((type(found), type(found[0]), type(found[1])), (tuple, tuple, tuple))
                rests[len(told[1]) == web.size, told[1] == ()] = True
        self.assertEqual(len(rests), 3)

    def test_full_and_empty_rests(self):
        self.assertEqual(share_rest(Web.ring(3), (Share(0),) * 3), ((None,) * 3, (0, 1, 2)))
        self.assertEqual(share_rest(Web.ring(3), (Share(1),) * 3), ((0,) * 3, ()))
        self.assertEqual(share_rest(Web.ring(60), (Share(1, 3),) * 60), ((None,) * 60, tuple(range(60))))
        ends = Web([[]] * 2, [[]] * 2, [1, 2], [None, ("chips", 1)])
        self.assertEqual(share_rest(ends, [Share(0), Share(1)]), ((None, None), (0, 1)))
        self.assertEqual(share_rest(Web.line(59), [Share(v, 59) for v in range(60)])[1], ())

    def test_exact_by_words(self):
        for at, web in enumerate(webs()):
            row = share_row(web)
            self.assertIs(share_exact(web, row), True)
            self.assertTrue(plain_shares.is_exact(web, plain_shares.fractions(row)))
            others = share_lists(web.size, 3, at) + [(Share(0),) * web.size, (Share(1),) * web.size]
            others += [row[:v] + (row[v] + Share(1, 7),) + row[v + 1:] for v in range(web.size)]
            for other in others:
                self.assertIs(share_exact(web, other), plain_shares.is_exact(web, plain_shares.fractions(other)))

    def test_only_one_row_is_exact(self):
        """[96], among all rows that are the lesser of part and mean."""
        many = 0
        for web in plain_tables.small_webs(30, 121, (1, 2, 3, 4)):
            if len(web.moving) <= 2:
                rows = fitting_rows(web)
                exact = [row for row in rows if plain_shares.is_exact(web, row)]
                self.assertEqual(exact, [plain_shares.fractions(share_row(web))])
                self.assertEqual([share_exact(web, plain_shares.shares(row)) for row in rows], [row in exact for row in rows])
                many += len(rows) - 1
        self.assertGreater(many, 40)

    def test_webs_that_are_not_small(self):
        for web, row in ((Web.line(59), [Share(v, 59) for v in range(60)]), (Web.ring(60), [Share(1)] * 60),
                         (chain(58), [Share(0), Share(1)] + [1 - Share(1, 2 ** v) for v in range(1, 59)])):
            self.assertTrue(share_exact(web, row))
            self.assertFalse(share_exact(web, [Share(2)] + list(row[1:])))

    def test_refusals(self):
        good = [Web.line(3), [Share(0), Share(-1, 3), Share(GREAT), Share(1)]]
        for call in (share_rest, share_exact):
            self.each_fault(call, good, [NO_WEBS, NO_SHARES])


def pair_lists(size, many, seed):
    """Lists of pairs and None, some with a stand twice."""
    found = []
    for at in range(many):
        told = [(seed + 3 * at + 5 * v + v * v * at) % (size * size + 2) for v in range(size)]
        found.append([None if number >= size * size else [number // size, number % size] for number in told])
    return found


class Equations(Refusals):
    def test_used_steps_by_words(self):
        # At its stand 3 no step of those with the least share has a lower rank, and two of them have that share.
        first, second = [[1, 3], [], [], [0, 2, 3, 4], [0, 1, 2]], [[1, 2, 3, 4], [], [], [1, 2, 3, 4], [0, 1, 2]]
        equal = Web(first, second, [2, 2, 1, 2, 1], [None, ("chips", 0), None, None, None])
        self.assertEqual(used_steps(equal, share_row(equal)), ((1, 2), None, None, (0, 2), (1, 2)))
        for web in webs() + six_webs()[::5] + [equal]:
            row = share_row(web)
            found = used_steps(web, list(row))
            self.assertEqual(found, plain_shares.used(web, plain_shares.fractions(row)))
            self.assertEqual({type(pair) for pair in found} - {type(None)}, {tuple} if any(found) else set())
        row = [Share(v, 59) for v in range(60)]
        self.assertEqual(used_steps(Web.line(59), row), (None,) + tuple((v - 1, v + 1) for v in range(1, 59)) + (None,))
        for web in webs()[::7]:
            self.refused(WrongNumber, used_steps, web, [Share(2)] * web.size)

    def test_determinants_by_words(self):
        zeros = 0
        for size in (1, 2, 3, 4):
            web = Web([[0]] * size, [[0]] * size, [1] * size, [None] * size)
            for pairs in pair_lists(size, 120, size):
                told = plain_shares.determinant(web, pairs)
                found = determinant(web, tuple(pairs))
                self.assertEqual((found, type(found)), (told, int))
                zeros += 1 if told == 0 else 0
        self.assertGreater(zeros, 20)

    def test_solutions_by_words(self):
        for at, web in enumerate(webs()):
            for pairs in pair_lists(web.size, 6, at):
                if plain_shares.determinant(web, pairs) == 0:
                    self.refused(WrongWeb, solved, web, pairs)
                    continue
                row = solved(web, pairs)
                self.assertTrue(plain_shares.solves(web, pairs, plain_shares.fractions(row)))
                self.assertEqual((type(row), len(row)), (tuple, web.size))

    def test_edges(self):
        line = Web.line(2)
        self.assertEqual([determinant(line, pairs) for pairs in ([None] * 3, [None, [1, 1], None], [None, (0, 0), None])],
                         [1, 0, 2])
        self.assertEqual([str(x) for x in solved(line, [None] * 3)], ["0/1", "1/1", "1/1"])
        self.assertEqual([str(x) for x in solved(line, [None, (2, 2), None])], ["0/1", "1/1", "1/1"])
        self.assertEqual([str(x) for x in solved(line, [[2, 2], None, None])], ["1/1", "1/1", "1/1"])
        self.refused(WrongWeb, solved, line, [[0, 0], None, None])
        self.refused(WrongWeb, solved, line, [[1, 1], [0, 0], None])
        self.assertEqual(determinant(line, [[0, 1], None, None]), 1)

    def test_a_place_that_is_cleared_to_nothing(self):
        web = Web([[0]] * 4, [[0]] * 4, [1] * 4, [None] * 4)
        pairs = [[0, 0], [2, 3], [0, 3], None]
        self.assertEqual(determinant(web, pairs), plain_shares.determinant(web, pairs))
        pairs = [[0, 0], [0, 2], [0, 1], None]
        self.assertEqual(determinant(web, pairs), plain_shares.determinant(web, pairs))
        found = [pairs for pairs in pair_lists(4, 400, 9) if pairs[0] == [0, 0] and plain_shares.determinant(web, pairs)]
        for pairs in found + [[[0, 0], [1, 0], None, None]]:
            self.assertEqual(determinant(web, pairs), plain_shares.determinant(web, pairs))

    def test_great_webs(self):
        pairs = [None] + [[v - 1, v + 1] for v in range(1, 59)] + [None]
        self.assertEqual(determinant(Web.line(59), pairs), 59)
        self.assertEqual([str(x) for x in solved(Web.line(59), pairs)][::20], ["0/1", "20/59", "40/59"])
        every = [[(v + 7) % 60, (v * v + 13) % 60] for v in range(60)]
        self.assertEqual(determinant(EVERY, every), 0)
        every[0] = None
        row = plain_shares.fractions(solved(EVERY, every))
        self.assertTrue(plain_shares.solves(EVERY, every, row))

    def test_the_equations_of_the_shares(self):
        """[98]"""
        for web in webs() + six_webs()[::3]:
            row = share_row(web)
            pairs = used_steps(web, row)
            found = determinant(web, pairs)
            self.assertTrue(1 <= found <= 2 ** len(web.moving))
            self.assertTrue(solved(web, pairs) == row)
            self.assertTrue(plain_shares.solves(web, pairs, plain_shares.fractions(row)))
            self.assertTrue(all((share * found).bottom == 1 for share in row))
            self.assertEqual(found % Table.least(web).period, 0)
            for one in plain_shares.fractions(row):
                for two in plain_shares.fractions(row):
                    self.assertTrue(one == two or abs(one - two) >= Fraction(1, found))

    def test_refusals(self):
        line = Web.line(3)
        self.each_fault(used_steps, [line, [Share(v, 3) for v in range(4)]],
                        [NO_WEBS, NO_SHARES + [([Share(0)] * 4, "c"), ([Share(GREAT)] * 4, "c")]])
        good = [None, [0, 2], (1, 3), None]
        lists = NO_LISTS + [([None, [0, 2], bad, None], "a") for bad, _ in NO_LISTS if bad is not None]
        lists += [([None, [0, bad], [1, 3], None], "a") for bad in (True, None, "1", 1.0)]
        lists += [([[True], [0, 9]], "a"), ([], "c"), (good[:3], "c"), (good + [None], "c"), ([None, [0], [1, 3], None], "c"),
                  ([None, [], [1, 3], None], "c"), ([None, [0, 2, 2], [1, 3], None], "c"),
                  ([None, [0, 4], [1, 3], None], "c"), ([None, [0, 2], [-1, 3], None], "c")]
        self.each_fault(determinant, [line, good], [NO_WEBS, lists])
        self.each_fault(solved, [line, good], [NO_WEBS, lists + [([None, [2, 2], [1, 1], None], "d")]])


class Speed(Refusals):
    def test_bounds_by_words(self):
        for web in webs()[::4] + [Web.line(59), Web.ring(60), chain(58)]:
            u = len(web.moving)
            self.assertEqual(plain_shares.fractions([gap_bound(web)]), (Fraction(1, 2 ** u),))
            for throws in (0, 1, u, 2 * u, 2 * u + 1, 59, 60):
                if throws <= 60:
                    told = (1 - Fraction(1, 2 ** u)) ** (throws // u) if u else Fraction(0)
                    self.assertEqual(plain_shares.fractions([speed_bound(web, throws)]), (told,))

    def test_how_fast_throws_come_near(self):
        """[99]"""
        for web in webs() + six_webs()[::8]:
            row = plain_shares.fractions(share_row(web))
            u = len(web.moving)
            for throws, thrown in enumerate(plain_shares.throw_rows(web, 30)):
                bound = (1 - Fraction(1, 2 ** u)) ** (throws // u) if u else 0
                self.assertTrue(all(0 <= one - two <= bound for one, two in zip(thrown, row)))
            for one in row:
                self.assertTrue(all(one == two or abs(one - two) >= Fraction(1, 2 ** u) for two in row))

    def test_rounds_and_throws(self):
        """[99], for every web, k and N."""
        great = [Web.line(20), Web.line(20, 2), chain(25), plain_due(Web.line(12), 30)]
        for web in webs(15) + great:
            thrown = plain_shares.throw_rows(web, 9)
            for k in (0, 3, 10):
                row = tuple(plain.due_number(due, k) for due in web.dues)
                for number in range(10):
                    for part, share in zip(row, thrown[number]):
                        self.assertLessEqual(abs(part - share * (k + 1)), Fraction(number + 1, 2) + web.greatest_due)
                    row = plain.next_row(web, k, row)

    def test_refusals(self):
        self.each_fault(speed_bound, [Web.line(3), 4], [NO_WEBS, THROWS])
        self.each_fault(gap_bound, [Web.line(3)], [NO_WEBS])


def plain_due(web, number):
    return Web(web.first, web.second, web.marks, [("chips", number)] + list(web.dues[1:]))


class Lines(Refusals):
    def test_numbers_by_rounds(self):
        """[102], and how near the numbers are to their shares."""
        for n in (1, 2, 3, 4, 5, 8):
            bend = n * (n - 1) // 2
            for mark in (1, 2):
                for k in list(range(0 if mark == 1 else max(0, bend - 1), bend + 2 * n)) + [60]:
                    row = plain_tables.number_row(Web.line(n, mark), k)
                    self.assertEqual(tuple(row_number(n, mark, k, v) for v in range(n + 1)), row)
                    for v, number in enumerate(row):
                        off = number - Fraction(v, n) * (k + 1)
                        if mark == 1:
                            self.assertTrue(0 >= off >= -Fraction(n, 4))
                        else:
                            self.assertTrue(0 <= off <= Fraction(v * (n - v), 2))

    def test_far_numbers(self):
        for n in (1, 2, 7, 23, 40):
            for mark in (1, 2):
                for k in (780, 10 ** 30, GREAT - 7, GREAT):
                    row = tuple(row_number(n, mark, k, v) for v in range(n + 1))
                    self.assertTrue(plain_tables.is_number_row(Web.line(n, mark), k, row))

    def test_just_below_the_bound(self):
        for n in (2, 3, 10, 40):
            bend = n * (n - 1) // 2
            self.refused(WrongNumber, row_number, n, 2, bend - 2, 1)
            row = tuple(row_number(n, 2, bend - 1, v) for v in range(n + 1))
            self.assertTrue(plain_tables.is_number_row(Web.line(n, 2), bend - 1, row))
            self.assertEqual(row_number(n, 1, 0, n), 1)
        self.assertEqual([row_number(1, 2, 0, v) for v in (0, 1)], [0, 1])
        self.refused(TooMuch, row_number, 41, 2, 819, 41)
        self.refused(WrongNumber, row_number, 41, 2, 818, 41)
        self.refused(WrongNumber, row_number, 10 ** 50, 2, 10 ** 60, 1)
        for mark in (1, 2):
            self.refused(WrongNumber, row_number, 0, mark, 9, 0)

    def test_refusals(self):
        bounds = NO_INTEGERS + numbers(-1, -(10 ** 50))
        self.each_fault(row_number, [3, 1, 9, 2], [NO_INTEGERS + numbers(0, -1) + too_much(41, 10 ** 50),
                                                   NO_INTEGERS + numbers(0, 3, -1), bounds + too_much(GREAT + 1),
                                                   NO_INTEGERS + numbers(-1, 10 ** 60)])
        self.each_fault(row_number, [3, 2, 9, 2], [[], NO_INTEGERS + numbers(0, 3), bounds + numbers(0, 1),
                                                   NO_INTEGERS + numbers(-1, 4)])


if __name__ == "__main__":
    unittest.main()
