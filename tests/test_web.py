"""[2], [3], [4], [8] and [10]: webs, lines, rings and mirrors."""

import unittest

from pursewebs.errors import TooMuch, WrongKind, WrongNumber, WrongWeb
from pursewebs.web import Web
from tests.plain import all_webs, some_webs
from tests.refusals import NO_DUES, NO_INTEGERS, NO_LISTS, NO_ROWS, Refusals, numbers, too_much

FIRST = [[], [], [0, 1], [1]]
SECOND = [[], [], [1, 0, 1], [0, 1]]
MARKS = [1, 1, 1, 2]
DUES = [["chips", 0], None, ("less", 7), None]


def wide(size):
    """The four lists of a web of this size in which each stand leads to each stand."""
    ways = [list(range(size))] * size
    return [ways, ways, [1] * size, [None] * size]


class Webs(Refusals):
    def test_what_a_web_tells(self):
        web = Web(FIRST, SECOND, MARKS, DUES)
        self.assertEqual(web.size, 4)
        self.assertEqual(web.first, ((), (), (0, 1), (1,)))
        self.assertEqual(web.second, ((), (), (0, 1), (0, 1)))
        self.assertEqual(web.marks, (1, 1, 1, 2))
        self.assertEqual(web.dues, (("chips", 0), None, ("less", 7), None))
        self.assertEqual((web.ends, web.moving, web.greatest_due), ((0, 1), (2, 3), 7))
        self.assertIs(web.even, False)

    def test_all_is_made_of_tuples(self):
        web = Web(FIRST, SECOND, MARKS, DUES)
        for told in (web.first, web.second, web.marks, web.dues, web.ends, web.moving, web.first[2], web.dues[0]):
            self.assertIs(type(told), tuple)

    def test_lists_and_tuples_alike(self):
        web = Web(FIRST, SECOND, MARKS, DUES)
        other = Web(tuple(tuple(steps) for steps in FIRST), tuple(tuple(steps) for steps in SECOND), tuple(MARKS),
                    tuple(None if due is None else tuple(due) for due in DUES))
        self.assertTrue(web == other)
        self.assertFalse(web != other)

    def test_a_web_lives_on_its_own(self):
        steps, marks, dues = [[0, 0]], [1], [["chips", 3]]
        web = Web(steps, steps, marks, dues)
        steps[0].append(7)
        marks[0] = 2
        dues[0][1] = 9
        self.assertTrue(web == Web([[0]], [[0]], [1], [("chips", 3)]))

    def test_own_steps_and_steps_told_twice(self):
        web = Web([[1, 0, 1], [1, 1]], [[0, 0], [1]], [2, 1], [None, None])
        self.assertEqual((web.first, web.second), (((0, 1), (1,)), ((0,), (1,))))
        self.assertEqual((web.ends, web.moving, web.greatest_due), ((), (0, 1), 0))

    def test_sizes(self):
        self.assertEqual(Web([[]], [[]], [2], [None]).ends, (0,))
        self.assertEqual(Web(*wide(1)).moving, (0,))
        self.assertEqual(Web(*wide(60)).size, 60)
        ends = Web([[]] * 60, [[]] * 60, [1] * 60, [("less", 10 ** 40)] * 60)
        self.assertEqual((ends.moving, len(ends.ends), ends.greatest_due, ends.even), ((), 60, 10 ** 40, True))

    def test_even(self):
        self.assertIs(Web([[0, 1], []], [[1, 0, 0], []], [1, 2], [None, None]).even, True)
        self.assertIs(Web([[0, 1], []], [[1], []], [1, 2], [None, None]).even, False)

    def test_equality(self):
        web = Web(FIRST, SECOND, MARKS, DUES)
        others = [Web(SECOND, SECOND, MARKS, DUES), Web(FIRST, FIRST, MARKS, DUES), Web(FIRST, SECOND, [1] * 4, DUES),
                  Web(FIRST, SECOND, MARKS, [None] * 4), Web(FIRST, SECOND, [2, 1, 1, 2], DUES), None, 5, FIRST]
        for other in others:
            self.assertFalse(web == other)
            self.assertTrue(web != other)

    def test_kinds(self):
        good = [FIRST, SECOND, MARKS, DUES]
        for place in (0, 1):
            for bad, _ in NO_LISTS:
                self.refused(WrongKind, Web, *with_part(good, place, bad))
            for bad, _ in NO_ROWS:
                self.refused(WrongKind, Web, *with_part(good, place, [[], [], [0], bad]))
        for bad, _ in NO_ROWS:
            self.refused(WrongKind, Web, *with_part(good, 2, bad))
        for bad, _ in NO_INTEGERS:
            self.refused(WrongKind, Web, *with_part(good, 2, [1, bad, 1, 1]))
        for bad, _ in NO_LISTS:
            self.refused(WrongKind, Web, *with_part(good, 3, bad))
        for bad, _ in NO_DUES:
            self.refused(WrongKind, Web, *with_part(good, 3, [None, None, None, bad]))

    def test_wrong_webs(self):
        good = [FIRST, SECOND, MARKS, DUES]
        self.refused(WrongWeb, Web, [], [], [], [])
        for place in range(4):
            self.refused(WrongWeb, Web, *with_part(good, place, good[place][:3]))
            self.refused(WrongWeb, Web, *with_part(good, place, good[place] + good[place][:1]))
            self.refused(WrongWeb, Web, *with_part(good, place, []))
        for place in (0, 1):
            for steps in ([4], [-1], [0, 10 ** 50], []):
                self.refused(WrongWeb, Web, *with_part(good, place, [[], [], [0], steps]))
            self.refused(WrongWeb, Web, *with_part(good, place, [[], [1], [0], [0]]))
        for mark in (0, 3, -1, 10 ** 50):
            self.refused(WrongWeb, Web, *with_part(good, 2, [1, 1, 1, mark]))
            self.refused(WrongWeb, Web, *with_part(good, 2, [mark, 1, 1, 1]))
        for due in (("chips", -1), ["less", -1], ("", 0), ("Chips", 3), ("other", 10 ** 50)):
            self.refused(WrongWeb, Web, *with_part(good, 3, [None, None, None, due]))

    def test_too_much(self):
        self.refused(TooMuch, Web, *wide(61))
        self.refused(TooMuch, Web, [[]] * 61, [[]] * 61, [1] * 61, [None] * 61)
        for word in ("chips", "less"):
            self.refused(TooMuch, Web, FIRST, SECOND, MARKS, [None, None, None, (word, 10 ** 40 + 1)])
            self.assertEqual(Web(FIRST, SECOND, MARKS, [None, None, None, (word, 10 ** 40)]).greatest_due, 10 ** 40)

    def test_each_error_is_looked_for_over_all_lists_first(self):
        great = [None, None, None, ("chips", 10 ** 41)]
        self.refused(WrongKind, Web, [[9], [], [], []], SECOND, [3] * 5, [None, None, None, ("chips", "1")])
        self.refused(WrongKind, Web, [[9]], [[True]], MARKS, great)
        self.refused(WrongKind, Web, [], [], [], None)
        self.refused(WrongWeb, Web, FIRST, SECOND, [1, 1, 1, 3], great)
        self.refused(WrongWeb, Web, FIRST, SECOND, MARKS, [("chips", 10 ** 41), None, None, ("chips", -1)])
        self.refused(WrongWeb, Web, [[]] * 61, [[]] * 60, [1] * 61, [None] * 61)
        self.refused(WrongWeb, Web, [[61]] + [[]] * 60, [[0]] + [[]] * 60, [1] * 61, [None] * 61)


def with_part(parts, place, part):
    return [part if at == place else old for at, old in enumerate(parts)]


class Mirrors(unittest.TestCase):
    def check(self, web):
        mirror = ~web
        self.assertIs(type(mirror), Web)
        self.assertEqual((mirror.first, mirror.second), (web.second, web.first))
        self.assertEqual(mirror.marks, tuple({1: 2, 2: 1}[mark] for mark in web.marks))
        self.assertEqual(mirror.dues, web.dues)
        self.assertTrue(~mirror == web)
        self.assertEqual(mirror.even, web.even)

    def test_small_webs(self):
        for web in all_webs(1, [None, ("chips", 3), ("less", 1)]):
            self.check(web)
        for web in all_webs(2, [None]):
            self.check(web)
        for web in some_webs(5, 200, 1):
            self.check(web)

    def test_great_and_plain_webs(self):
        for web in (Web.line(59, 2), Web.ring(60), Web(*wide(60)), Web([[]], [[]], [1], [("less", 10 ** 40)])):
            self.check(web)


class Plain(Refusals):
    def test_lines(self):
        web = Web.line(3, 2)
        self.assertEqual(web.first, ((), (0, 2), (1, 3), ()))
        self.assertEqual((web.second, web.marks), (web.first, (2, 2, 2, 2)))
        self.assertEqual(web.dues, (("chips", 0), None, None, None))
        self.assertTrue(Web.line(1) == Web([[], []], [[], []], [1, 1], [("chips", 0), None]))
        self.assertTrue(Web.line(3) == Web.line(3, 1))
        self.assertEqual((Web.line(59).size, Web.line(59).ends), (60, (0, 59)))

    def test_rings(self):
        web = Web.ring(3)
        self.assertEqual((web.first, web.second), (((1,), (2,), (0,)), ((1,), (2,), (0,))))
        self.assertEqual((web.marks, web.dues), ((1, 1, 1), (None, None, None)))
        self.assertTrue(Web.ring(1, 2) == Web([[0]], [[0]], [2], [None]))
        self.assertEqual((Web.ring(60, 2).size, Web.ring(60, 2).marks), (60, (2,) * 60))

    def test_refusals(self):
        marks = NO_INTEGERS + numbers(0, 3, -1, 10 ** 50)
        self.each_fault(Web.line, [3, 1], [NO_INTEGERS + numbers(0, -5) + too_much(60, 10 ** 30), marks])
        self.each_fault(Web.ring, [3, 1], [NO_INTEGERS + numbers(0, -5) + too_much(61, 10 ** 30), marks])
        self.refused(WrongNumber, Web.line, 0)
        self.refused(TooMuch, Web.ring, 61)


if __name__ == "__main__":
    unittest.main()
