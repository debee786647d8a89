"""[8] and [12]: webs made of webs, where stands lead, and the kept-off set."""

import unittest
from itertools import permutations

from pursewebs.builders import chain, cut_down, ended, renamed, with_due, with_marks
from pursewebs.errors import WrongKind, WrongNumber, WrongWeb
from pursewebs.spread import first_reach, kept_off, spread
from pursewebs.web import Web
from pursewebs.webtext import written
from tests.plain import all_webs, kept_off as plain_kept_off, some_webs, subsets
from tests.refusals import NO_DUES, NO_INTEGERS, NO_ROWS, NO_WEBS, WRONG_DUES, Refusals, numbers, too_much

WEB = Web([[], [], [0, 1], [1]], [[], [], [1, 0], [2, 1]], [1, 1, 1, 2], [("chips", 0), None, None, None])
STANDS = NO_INTEGERS + numbers(-1, 4, 10 ** 50)


class Builders(Refusals):
    def test_chain(self):
        self.assertTrue(chain(1) == Web([[], [], [0, 1]], [[], [], [0, 1]], [1] * 3, [("chips", 0), None, None]))
        ways = [[], [], [0, 1], [2, 1], [3, 1]]
        self.assertTrue(chain(3, 2) == Web(ways, ways, [2] * 5, [("chips", 0)] + [None] * 4))
        self.assertEqual((chain(58).size, chain(58).first[59]), (60, (1, 58)))

    def test_with_marks(self):
        for mark in (1, 2):
            web = with_marks(WEB, mark)
            self.assertEqual((web.first, web.second, web.dues), (WEB.first, WEB.second, WEB.dues))
            self.assertEqual(web.marks, (mark,) * 4)

    def test_with_due(self):
        for due in (None, ("chips", 3), ["less", 10 ** 40]):
            for stand in range(4):
                web = with_due(WEB, stand, due)
                self.assertEqual((web.first, web.second, web.marks), (WEB.first, WEB.second, WEB.marks))
                told = None if due is None else tuple(due)
                self.assertEqual(web.dues, WEB.dues[:stand] + (told,) + WEB.dues[stand + 1:])

    def test_ended(self):
        web = ended(WEB, 2, ["less", 5])
        self.assertTrue(web == Web([[], [], [], [1]], [[], [], [], [1, 2]], [1, 1, 1, 2],
                                   [("chips", 0), None, ("less", 5), None]))
        self.assertTrue(ended(WEB, 1, None) == WEB)
        self.assertEqual(ended(Web.ring(1), 0, None).ends, (0,))

    def test_renamed(self):
        for order in permutations(range(4)):
            web = renamed(WEB, list(order))
            for v in range(4):
                self.assertEqual(web.first[order[v]], tuple(sorted(order[w] for w in WEB.first[v])))
                self.assertEqual(web.second[order[v]], tuple(sorted(order[w] for w in WEB.second[v])))
                self.assertEqual(web.marks[order[v]], WEB.marks[v])
                self.assertEqual(web.dues[order[v]], WEB.dues[v])

    def test_cut_down(self):
        for stands in ([0], [1, 1], (0, 1), [2, 0, 1], [3, 2, 1, 0, 3]):
            web, kept = cut_down(WEB, stands)
            self.assertEqual(kept, tuple(sorted(set(stands))))
            for name, v in enumerate(kept):
                self.assertEqual(tuple(kept[w] for w in web.first[name]), WEB.first[v])
                self.assertEqual(tuple(kept[w] for w in web.second[name]), WEB.second[v])
                self.assertEqual((web.marks[name], web.dues[name]), (WEB.marks[v], WEB.dues[v]))
        for stands in ([], (), [2], [3], [0, 2], [3, 1], [3, 2]):
            self.refused(WrongWeb, cut_down, WEB, stands)

    def test_great_webs(self):
        web = Web.line(59)
        self.assertTrue(cut_down(web, list(range(60)))[0] == web)
        self.assertTrue(renamed(renamed(web, list(range(60))[::-1]), list(range(60))[::-1]) == web)
        self.assertEqual(cut_down(Web([[]] * 60, [[]] * 60, [1] * 60, [None] * 60), [59])[1], (59,))

    def test_nothing_handed_in_changes(self):
        before = written(WEB)
        orders, stands, due = [3, 2, 1, 0], [2, 1, 0], ["chips", 3]
        made = [with_marks(WEB, 2), with_due(WEB, 1, due), ended(WEB, 3, due), renamed(WEB, orders),
                cut_down(WEB, stands)[0], ~WEB]
        self.assertEqual(written(WEB), before)
        self.assertEqual((orders, stands, due), ([3, 2, 1, 0], [2, 1, 0], ["chips", 3]))
        for web in made:
            self.assertTrue(Web.from_text(written(web)) == web)

    def test_refusals(self):
        marks = NO_INTEGERS + numbers(0, 3, -1, 10 ** 50)
        self.each_fault(chain, [3, 1], [NO_INTEGERS + numbers(0, -1) + too_much(59, 10 ** 30), marks])
        self.each_fault(with_marks, [WEB, 1], [NO_WEBS, marks])
        self.each_fault(with_due, [WEB, 1, None], [NO_WEBS, STANDS, NO_DUES + WRONG_DUES])
        self.each_fault(ended, [WEB, 1, ("less", 2)], [NO_WEBS, STANDS, NO_DUES + WRONG_DUES])
        orders = [([0, 1, 2], "c"), ([0, 1, 2, 3, 4], "c"), ([0, 1, 2, 2], "c"), ([1, 2, 3, 4], "c"), ([-1, 0, 1, 2], "c"),
                  ([], "c")]
        self.each_fault(renamed, [WEB, [0, 1, 2, 3]], [NO_WEBS, NO_ROWS + orders])
        stands = [([0, 4], "c"), ((-1,), "c"), ([2, 4], "c"), ([], "b"), ([2], "b")]
        for bad, _ in NO_WEBS:
            self.refused(WrongKind, cut_down, bad, [9])
        for bad, letter in NO_ROWS + stands:
            self.refused({"a": WrongKind, "b": WrongWeb, "c": WrongNumber}[letter], cut_down, WEB, bad)


def plain_reach(web, stand, hands):
    """The least set that holds stand and with each stand all its steps."""
    right = [some for some in subsets(range(web.size)) if stand in some
             and all(w in some for v in some for hand in hands for w in (web.first, web.second)[hand][v])]
    return tuple(sorted(set.intersection(*right)))


class Spread(Refusals):
    def test_reach_by_plain_words(self):
        for web in list(all_webs(2, [None])) + list(some_webs(4, 150, 3)):
            for stand in range(web.size):
                self.assertEqual(first_reach(web, stand), plain_reach(web, stand, [0]))
                self.assertEqual(spread(web, stand), plain_reach(web, stand, [0, 1]))

    def test_reach_in_great_webs(self):
        self.assertEqual(first_reach(Web.ring(60), 17), tuple(range(60)))
        self.assertEqual(spread(chain(58), 59), tuple(range(60)))
        self.assertEqual(first_reach(Web([[]] * 60, [[]] * 60, [1] * 60, [None] * 60), 59), (59,))

    def test_kept_off_by_plain_words(self):
        dues = [None, ("chips", 0), ("less", 1)]
        for web in list(all_webs(1, dues)) + list(all_webs(2, dues)) + list(some_webs(4, 300, 4)):
            self.assertEqual(kept_off(web), plain_kept_off(web))
        for web in some_webs(5, 100, 5, [None, None, None, None, ("chips", 1)]):
            self.assertEqual(kept_off(web), plain_kept_off(web))

    def test_kept_off_in_great_webs(self):
        self.assertEqual(kept_off(Web.ring(60)), tuple(range(60)))
        self.assertEqual(kept_off(Web.line(59)), (59,))
        self.assertEqual(kept_off(with_due(Web.ring(60), 30, ("chips", 10 ** 40))), ())
        self.assertEqual(kept_off(Web([[]] * 60, [[]] * 60, [2] * 60, [None] * 60)), tuple(range(60)))

    def test_refusals(self):
        self.each_fault(first_reach, [WEB, 3], [NO_WEBS, STANDS])
        self.each_fault(spread, [WEB, 3], [NO_WEBS, STANDS])
        self.each_fault(kept_off, [WEB], [NO_WEBS])


if __name__ == "__main__":
    unittest.main()
