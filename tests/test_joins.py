"""[151] to [159]: joined webs, copies, layers, cuts and boards."""

import unittest
from fractions import Fraction
from itertools import product

from pursewebs.boards import both_boards
from pursewebs.builders import chain, ended, with_due, with_marks
from pursewebs.cutting import cut_at, cut_change, parts
from pursewebs.errors import TooMuch, WrongKind, WrongNumber, WrongWeb
from pursewebs.joins import copies, joined, layers, offsets
from pursewebs.rounds import number_row
from pursewebs.sharerows import share_row
from pursewebs.visits import visit_rows, visits_needed
from pursewebs.web import Web
from tests import plain, plain_joins, plain_shares, plain_tables
from tests.refusals import NO_INTEGERS, NO_LISTS, NO_WEBS, Refusals, numbers, too_much
from tests.test_calls import CALLS, cases

GREAT = 10 ** 40
LINE = Web.line(3)
STANDS = NO_INTEGERS + numbers(-1, 4, 10 ** 50)
ENDS = STANDS + [(1, "b"), (2, "b")]
ONE = Web([[]], [[]], [2], [("less", 1)])


def ends_of(many, seed, sizes=(2, 3, 4)):
    """Webs that have an end."""
    return [web for size in sizes for web in plain.some_webs(size, many, seed + size) if web.ends]


def some_links(web, at, others):
    """No link, one for an end or one for each end."""
    found = [[end, others[(at + end) % len(others)], (at + end) % others[(at + end) % len(others)].size]
             for end in web.ends]
    return (found, found[:1], found[::-1], [])[at % 4]


class Joined(Refusals):
    def webs(self):
        others = ends_of(6, 180) + [Web.ring(2), ONE]
        for at, web in enumerate(ends_of(12, 190)):
            yield web, some_links(web, at, others)

    def test_by_words(self):
        kinds = {}
        for web, links in self.webs():
            made = joined(web, *links)
            self.assertTrue(made == plain_joins.joined(web, links))
            self.assertEqual(offsets(web, *[tuple(link) for link in links]),
                             tuple(web.size + sum(link[1].size for link in links[:at]) for at in range(len(links))))
            kinds[len(links)] = True
        self.assertGreaterEqual(len(kinds), 3)
        self.assertTrue(joined(LINE) == LINE)
        self.assertEqual(offsets(LINE), ())

    def test_numbers(self):
        """[152], by rounds of the next row."""
        for web, links in self.webs():
            made, places = joined(web, *links), offsets(web, *links)
            for k in (0, 1, 4):
                row = plain_tables.number_row(made, k)
                self.assertEqual(number_row(made, k), row)
                cut = web
                for (end, other, entry), place in zip(links, places):
                    told = plain_tables.number_row(other, k)
                    self.assertEqual(row[place:place + other.size], told)
                    cut = ended(cut, end, ("chips", told[entry]))
                self.assertEqual(row[:web.size], plain_tables.number_row(cut, k))

    def test_shares(self):
        """[153], every fitting row being tried with parts of few bottoms."""
        seen = 0
        tries = [Fraction(top, bottom) for bottom in (1, 2, 3, 4) for top in range(bottom + 1)]
        for web, links in self.webs():
            made, places = joined(web, *links), offsets(web, *links)
            if made.size > 10 or len(made.moving) > 6 or made.greatest_due > 9 or not links:
                continue
            shares = plain_shares.fractions(share_row(made))
            most = {}
            for (end, other, entry), place in zip(links, places):
                self.assertEqual(shares[place:place + other.size], plain_shares.fractions(share_row(other)))
                most[end] = shares[place + entry]
            self.assertTrue(self.fits(web, shares[:web.size], most))
            if web.size == 2:
                for row in product(tries, repeat=2):
                    if self.fits(web, row, most):
                        seen += 1
                        self.assertTrue(all(one <= two for one, two in zip(row, shares)))
        self.assertGreater(seen, 20)

    def fits(self, web, row, most):
        for v in range(web.size):
            bounds = [most[v]] if v in most else [plain_shares.part(web, v), plain_shares.mean(web, row, v)]
            if row[v] > min(bounds):
                return False
        return True

    def test_edges(self):
        sixty = joined(Web.line(29), [0, Web.line(28), 3], [29, ONE, 0])
        self.assertEqual(sixty.size, 60)
        self.assertEqual(offsets(Web.line(29), [0, Web.line(28), 3], [29, ONE, 0]), (30, 59))
        line = Web.line(2)
        twice = joined(line, [0, line, 1], (2, line, 2))
        self.assertTrue(twice == plain_joins.joined(line, [(0, line, 1), (2, line, 2)]))
        self.assertEqual((twice.dues[0], twice.marks[0], twice.first[0], twice.second[0]), (None, 1, (4,), (4,)))
        self.assertTrue(joined(Web.line(2, 2), [0, line, 1]).marks[0] == 1)

    def test_refusals(self):
        other = Web.line(2)
        for call in (joined, offsets):
            links = NO_LISTS + [([0, other], "a"), ([0, other, 1, 1], "a"), ([], "a"), ([other, 0, 1], "a")]
            links += [([bad, other, 1], "a" if letter == "a" else letter.replace("b", "d")) for bad, letter in ENDS]
            links += [([0, bad, 1], "a") for bad, _ in NO_WEBS]
            links += [([0, other, bad], letter) for bad, letter in NO_INTEGERS + numbers(-1, 3, 10 ** 50)]
            links += [((3, other, 2), "d"), ((0, Web.line(58), 1), "f")]
            self.each_fault(call, [LINE, [3, other, 2], (0, other, 0)], [NO_WEBS, [], links])
            self.refused(TooMuch, call, Web.line(29), [0, Web.line(29), 3], [29, ONE, 0])
            self.refused(WrongNumber, call, LINE, [1, other, 0], [0, other, 3])
            self.refused(WrongKind, call, LINE, [9, other, 0], [0, other, True])
            self.refused(WrongWeb, call, LINE, [1, Web.line(58), 0])
            self.refused(WrongWeb, call, LINE, [0, Web.line(58), 0], [0, other, 0])


class Copies(Refusals):
    def test_by_words(self):
        for at, web in enumerate(ends_of(8, 200)):
            for end in web.ends:
                for times in (1, 2, 3):
                    entry = (at + end + times) % web.size
                    made = copies(web, end, entry, times)
                    self.assertTrue(made == plain_joins.copies(web, end, entry, times))
                    self.assertTrue(times > 1 or made == web)

    def test_numbers(self):
        """[154]"""
        falls = 0
        webs = ends_of(10, 210)
        for at, web in enumerate(webs + [with_due(web, web.ends[-1], ("chips", 0)) for web in webs]):
            end, entry = web.ends[-1], at % web.size
            for k in (0, 1, 3):
                row = plain_tables.number_row(copies(web, end, entry, 3), k)
                told = [row[j * web.size:(j + 1) * web.size] for j in range(3)]
                self.assertEqual(told[2], plain_tables.number_row(web, k))
                for j in (0, 1):
                    cut = ended(web, end, ("chips", told[j + 1][entry]))
                    self.assertEqual(told[j], plain_tables.number_row(cut, k))
                    if web.dues[end] == ("chips", 0):
                        self.assertTrue(all(one >= two for one, two in zip(told[j], told[j + 1])))
                        falls += 1
        self.assertGreater(falls, 10)

    def test_edges(self):
        self.assertEqual(copies(ONE, 0, 0, 60).size, 60)
        self.assertEqual(copies(ONE, 0, 0, 60).first[58:], ((59,), ()))
        self.assertTrue(copies(Web.line(59), 59, 59, 1) == Web.line(59))

    def test_refusals(self):
        stands = NO_INTEGERS + numbers(-1, 4, 10 ** 50)
        self.each_fault(copies, [LINE, 3, 1, 15], [NO_WEBS, stands + [(1, "d")], stands,
                                                   NO_INTEGERS + numbers(0, -1) + too_much(16, 10 ** 50)])
        self.refused(TooMuch, copies, ONE, 0, 0, 61)


class Layers(Refusals):
    def test_by_words(self):
        for web, _, calls in cases(20):
            for times in (0, 1, 2, 4):
                made = layers(web, list(calls) * 2, times)
                self.assertTrue(made == plain_joins.layers(web, calls, times))

    def test_numbers(self):
        """[155]: the numbers of the layers are the visit rows."""
        for web, k, calls in cases(12):
            row = plain_tables.number_row(layers(web, calls, 3), k)
            for j in range(4):
                self.assertEqual(row[j * web.size:(j + 1) * web.size], visits_needed(web, k, calls, j))
        web = Web.line(5, 2)
        told = number_row(layers(web, [2, 3], 9), 11)
        rows = list(visit_rows(web, 11, [2, 3]))
        self.assertEqual([told[6 * j:6 * j + 6] for j in range(10)], (rows + rows[-1:] * 9)[:10])

    def test_edges(self):
        self.assertEqual(layers(LINE, [1], 14).size, 60)
        self.assertTrue(layers(LINE, [1], 0) == Web([[]] * 4, [[]] * 4, [1] * 4, [("chips", 0)] * 4))
        self.assertEqual(layers(ONE, [], 59).dues, (("chips", 0),) + (("less", 1),) * 59)

    def test_refusals(self):
        self.each_fault(layers, [LINE, [2, 1], 14], [NO_WEBS, CALLS, NO_INTEGERS + numbers(-1) + too_much(15, 10 ** 50)])
        self.refused(TooMuch, layers, ONE, [], 60)


class Cuts(Refusals):
    def webs(self):
        for at, web in enumerate(web for size in (1, 2, 3, 4) for web in plain.some_webs(size, 15, 220 + size)):
            yield web, at % 5

    def test_at(self):
        for web, k in self.webs():
            row = plain_tables.number_row(web, k)
            for v in range(web.size):
                made = cut_at(web, k, v)
                self.assertTrue(made == ended(web, v, ("chips", row[v])))
                self.assertEqual(plain_tables.number_row(made, k), row)

    def test_change(self):
        """[156]"""
        seen = {}
        for web, k in self.webs():
            row = plain_tables.number_row(web, k)
            for v in range(web.size):
                for change in (-10 ** 50, -9, -2, -1, 0, 1, 3, GREAT - k - 1):
                    other = with_due(ended(web, v, None), v, ("chips", max(0, row[v] + change)))
                    after = plain_tables.number_row(other, k)
                    told = tuple(two - one for one, two in zip(row, after))
                    self.assertEqual(cut_change(web, k, v, change), told)
                    for part in told:
                        self.assertTrue(part == 0 or (0 < part <= change or change <= part < 0))
                        seen[part > 0, part < 0] = True
        self.assertEqual(len(seen), 3)
        self.assertEqual(cut_change(LINE, 5, 2, GREAT - 4), (0, 1, 2, 0))
        self.refused(TooMuch, cut_change, LINE, 5, 2, GREAT - 3)

    def test_parts(self):
        for web, k in self.webs():
            row = plain_tables.number_row(web, k)
            for some in plain.subsets(web.moving):
                self.assertEqual(parts(web, k, sorted(some) * 2), row)
        web = Web.line(59, 2)
        self.assertEqual(parts(web, 5000, (3, 40)), number_row(web, 5000))
        self.assertEqual(cut_at(web, 5000, 30).dues[30], ("chips", number_row(web, 5000)[30]))

    def test_refusals(self):
        chips = NO_INTEGERS + numbers(-1) + too_much(5001, 10 ** 50)
        self.each_fault(cut_at, [LINE, 5000, 3], [NO_WEBS, chips, STANDS])
        self.each_fault(cut_change, [LINE, 5000, 0, -1],
                        [NO_WEBS, chips, STANDS, NO_INTEGERS + too_much(GREAT + 1, 10 ** 50)])
        self.each_fault(parts, [LINE, 5000, [1, 2]], [NO_WEBS, chips, CALLS])
        self.assertEqual(parts(LINE, 3, ()), number_row(LINE, 3))


def some_boards():
    """Boards with won and lost ends, with rings and without."""
    found = [web for size in (1, 2, 3) for web in plain.some_webs(size, 14, 230 + size, [None, ("chips", 0)])]
    boards = [Web(web.first, web.second, web.marks, [None if web.first[v] else web.dues[v] for v in range(web.size)])
              for web in found]
    return boards + [LINE, Web.ring(2), chain(2), Web.line(1), with_due(Web.line(2), 2, ("chips", 0))]


def rings(web):
    """True if some way along steps leads from a stand back to itself."""
    for v in range(web.size):
        found, waiting = set(), [v]
        while waiting:
            place = waiting.pop()
            for w in (*web.first[place], *web.second[place]):
                if w == v:
                    return True
                if w not in found:
                    found.add(w)
                    waiting.append(w)
    return False


class Boards(Refusals):
    def pairs(self):
        boards = some_boards()
        for at, web in enumerate(boards):
            for turn in (1, 5, 11):
                yield web, boards[(at * turn + turn) % len(boards)]

    def test_by_words(self):
        for web, other in self.pairs():
            for mark, goal in product((1, 2), ("all", "any")):
                self.assertTrue(both_boards(web, other, mark, goal) == plain_joins.boards(web, other, mark, goal))

    def test_numbers(self):
        """[158]"""
        kinds = {}
        for web, other in self.pairs():
            for mark, k in product((1, 2), (0, 1, 3)):
                one = plain_tables.number_row(with_marks(web, mark), k)
                two = plain_tables.number_row(with_marks(other, mark), k)
                both = plain_tables.number_row(both_boards(web, other, mark, "all"), k)
                some = plain_tables.number_row(both_boards(web, other, mark, "any"), k)
                for v, w in product(range(web.size), range(other.size)):
                    place = v * other.size + w
                    self.assertGreaterEqual(both[place], max(one[v], two[w]))
                    if mark == 1:
                        self.assertLessEqual(some[place], min(one[v], two[w]))
                    if mark == 2 and not rings(other):
                        self.assertLessEqual(some[place], one[v])
                    if mark == 2 and not rings(web):
                        self.assertLessEqual(some[place], two[w])
                kinds[rings(web), rings(other)] = True
        self.assertEqual(len(kinds), 4)

    def test_why_rings_matter(self):
        """[159]"""
        first = Web([[1], []], [[1], []], [1, 1], [None, ("chips", 0)])
        for k in (0, 1, 5, 40):
            both = both_boards(first, Web.ring(1), 2, "any")
            self.assertEqual((number_row(both, k)[0], number_row(first, k)[0]), (1, 0))

    def test_edges(self):
        self.assertEqual(both_boards(Web.line(5), Web.line(9), 1, "all").size, 60)
        made = both_boards(Web.line(1), Web.line(1), 2, "any")
        self.assertEqual((made.ends, made.marks, made.dues[:2]), ((0, 1, 2, 3), (2,) * 4, (("chips", 0),) * 2))
        self.assertEqual(both_boards(Web.line(1), Web.line(1), 2, "all").dues, (("chips", 0), None, None, None))

    def test_refusals(self):
        wrong = [(web, "b") for web in (with_due(LINE, 1, ("chips", 0)), with_due(LINE, 3, ("chips", 1)),
                                        with_due(LINE, 0, ("less", 0)), with_due(Web.line(59), 59, ("less", GREAT)))]
        great = [(Web.line(15), "f"), (Web.line(59), "f")]
        marks = NO_INTEGERS + numbers(0, 3, -1, 10 ** 50)
        goals = [(bad, "a") for bad in (None, 5, True, b"all", ["all"])] + [(bad, "c") for bad in ("", "All", "both", "all ")]
        self.each_fault(both_boards, [LINE, LINE, 2, "any"], [NO_WEBS + wrong + great, NO_WEBS + wrong + great, marks, goals])
        self.refused(TooMuch, both_boards, Web.line(59), Web.line(1), 1, "all")
        self.refused(WrongWeb, both_boards, with_due(LINE, 1, ("chips", 0)), LINE, 7, "none")


if __name__ == "__main__":
    unittest.main()
