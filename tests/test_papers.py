"""[46] to [50] and [5]: verdicts, lower and upper rows, falling out, and papers."""

import unittest

from pursewebs.builders import with_due
from pursewebs.errors import TooMuch, WrongKind, WrongNumber, WrongText
from pursewebs.falling import falling, is_exact
from pursewebs.lower import joined_lower, lower_faults
from pursewebs.paper import Paper, paper_written
from pursewebs.rounds import number_row
from pursewebs.upper import upper_faults
from pursewebs.verdict import Verdict
from pursewebs.web import Web
from tests import plain
from tests.refusals import NO_INTEGERS, NO_LISTS, NO_ROWS, NO_TEXTS, NO_WEBS, Refusals, numbers, too_much

GREAT = 10 ** 40
BOUNDS = NO_INTEGERS + numbers(-1) + too_much(GREAT + 1)
LENGTHS = [([], "c"), ((0, 0, 0), "c"), ([0] * 5, "c")]
ROWS = NO_ROWS + LENGTHS + [([0, -1, 0, 0], "c"), ([0, 0, GREAT + 3, 0], "c")]
RANKS = NO_ROWS + LENGTHS + [([0, 0, 0, -1], "c")]
DUES = [None, ("chips", 0), ("chips", 2), ("less", 1)]


def cases():
    """Some webs with a k and rows of parts in 0 .. K."""
    webs = list(plain.all_webs(1, DUES)) + list(plain.all_webs(2, DUES))[::37]
    webs += list(plain.some_webs(3, 60, 21)) + list(plain.some_webs(4, 12, 22))
    for at, web in enumerate(webs):
        k = at % 3 if web.size < 4 else at % 2
        yield web, k, plain.rows(web.size, k + 1)


def rank_rows(size, most):
    return plain.rows(size, most)


def great_webs():
    every = [list(range(60))] * 60
    return [Web.line(59), Web.ring(60, 2), Web([[]] * 60, [[]] * 60, [1] * 60, [None, ("chips", 2)] * 30),
            Web(every, every, [1, 2] * 30, [("less", 1)] + [None] * 59)]


class Verdicts(Refusals):
    def test_what_a_verdict_tells(self):
        verdict = Verdict([3, 0, 3, 10 ** 50])
        self.assertEqual(verdict.faults, (0, 3, 10 ** 50))
        self.assertEqual(list(verdict), [0, 3, 10 ** 50])
        self.assertIs(bool(verdict), False)
        self.assertIs(bool(Verdict([])), True)
        self.assertEqual((Verdict(()).faults, list(Verdict([]))), ((), []))
        self.assertEqual([tuple(verdict), 3 in verdict, 4 in verdict], [(0, 3, 10 ** 50), True, False])

    def test_equality(self):
        self.assertTrue(Verdict([1, 0]) == Verdict((0, 1, 1)))
        self.assertFalse(Verdict([1, 0]) != Verdict((0, 1, 1)))
        for other in (Verdict([1]), Verdict([]), (0, 1), [0, 1], None):
            self.assertFalse(Verdict([0, 1]) == other)
            self.assertTrue(Verdict([0, 1]) != other)

    def test_refusals(self):
        self.each_fault(Verdict, [[1, 2]], [NO_ROWS + [([1, -1], "c"), ((-GREAT,), "c")]])
        self.refused(WrongKind, Verdict, [-1, True])


class Lower(Refusals):
    def test_by_words(self):
        for web, k, rows in cases():
            for row in rows:
                found = lower_faults(web, k, list(row))
                self.assertIs(type(found), Verdict)
                self.assertEqual(found.faults, plain.lower_faults(web, k, row))

    def test_the_greatest_lower_row(self):
        for web, k, rows in cases():
            row = number_row(web, k)
            lower = [some for some in rows if not plain.lower_faults(web, k, some)]
            self.assertIn(row, lower)
            self.assertEqual(joined_lower(web, k, lower), row)

    def test_joined(self):
        for web, k, rows in cases():
            lower = [list(some) for some in rows if not plain.lower_faults(web, k, some)]
            for at in range(0, len(lower) - 1, 3):
                two = lower[at:at + 2]
                told = joined_lower(web, k, two)
                self.assertEqual(told, tuple(max(parts) for parts in zip(*two)))
                self.assertEqual(plain.lower_faults(web, k, told), ())
            wrong = [some for some in rows if plain.lower_faults(web, k, some)]
            for row in wrong[::5]:
                self.refused(WrongNumber, joined_lower, web, k, [lower[0], row])

    def test_great_webs(self):
        for web in great_webs():
            row = number_row(web, 9)
            self.assertTrue(lower_faults(web, 9, row))
            self.assertEqual(joined_lower(web, 9, ((0,) * 60, row)), row)
            self.assertEqual(lower_faults(web, 9, (10,) * 60).faults, plain.lower_faults(web, 9, (10,) * 60))

    def test_refusals(self):
        web = Web.line(3)
        self.each_fault(lower_faults, [web, GREAT, [0, 0, GREAT + 1, 0]], [NO_WEBS, BOUNDS, ROWS])
        rows = NO_LISTS + [([(0, 0, 0, 0), bad], "a") for bad, _ in NO_ROWS]
        rows += [([(0, 0, 0, 0), bad], "c") for bad, _ in LENGTHS]
        rows += [([], "c"), ((), "c"), ([[0, -1, 0, 0]], "c"), ([[0, 0, GREAT + 3, 0]], "c"), ([[0, 1, 0, 0]], "c"),
                 ([[1, 1, 1, 1]], "c")]
        self.each_fault(joined_lower, [web, GREAT, [[0, 0, 0, 0], (0, 1, 2, 3)]], [NO_WEBS, BOUNDS, rows])
        self.refused(WrongNumber, joined_lower, web, 0, [[0, 0, 0, 2]])
        self.refused(WrongNumber, joined_lower, web, -1, [[0, 0, 0, 0]])
        self.assertEqual(joined_lower(web, 0, [[0, 0, 0, 1]]), (0, 0, 0, 1))

    def test_no_k_below_0(self):
        web, zeros = Web.line(3), (0, 0, 0, 0)
        for call in (lower_faults, falling, is_exact):
            self.refused(WrongNumber, call, web, -1, zeros)
        for call in (upper_faults, Paper):
            self.refused(WrongNumber, call, web, -1, zeros, zeros)


class Upper(Refusals):
    def test_by_words(self):
        for web, k, rows in cases():
            for at, row in enumerate(rows):
                for ranks in rank_rows(web.size, 2)[at % 7::7 if web.size > 2 else 1]:
                    found = upper_faults(web, k, row, list(ranks))
                    self.assertEqual(found.faults, plain.upper_faults(web, k, row, ranks))

    def test_great_ranks(self):
        for web, k, rows in cases():
            for row in rows[::3]:
                ranks = [(10 ** 50, 0, 7, 1)[v] for v in range(web.size)]
                found = upper_faults(web, k, row, ranks)
                self.assertEqual(found.faults, plain.upper_faults(web, k, row, ranks))

    def test_nowhere_below_the_numbers(self):
        for web, k, rows in cases():
            row = number_row(web, k)
            for other in rows:
                for ranks in rank_rows(web.size, web.size)[::1 if web.size < 3 else 5]:
                    if not plain.upper_faults(web, k, other, ranks):
                        self.assertTrue(all(part >= number for part, number in zip(other, row)))

    def test_refusals(self):
        self.each_fault(upper_faults, [Web.line(3), GREAT, (0, 0, GREAT + 1, 0), [0, 10 ** 50, 0, 1]],
                        [NO_WEBS, BOUNDS, ROWS, RANKS])


class Falling(Refusals):
    def test_by_words(self):
        for web, k, rows in cases():
            for row in rows:
                self.assertEqual(falling(web, k, list(row)), plain.falling(web, k, row))

    def test_exact_rows(self):
        for web, k, rows in cases():
            number = plain.numbers(web, k)
            self.assertEqual([row for row in rows if is_exact(web, k, row)], [number])
            self.assertIs(is_exact(web, k, number), True)
            ranks, rest = falling(web, k, number)
            self.assertEqual(rest, ())
            self.assertEqual(plain.upper_faults(web, k, number, ranks), ())
            self.assertLessEqual(max(ranks), len(web.moving))

    def test_raised_rows(self):
        for web, k, rows in cases():
            for row in rows:
                if not plain.lower_faults(web, k, row):
                    after = plain.raised(row, falling(web, k, row)[1])
                    self.assertEqual(plain.lower_faults(web, k, after), ())

    def test_changed_numbers(self):
        for web, k, rows in cases():
            number = number_row(web, k)
            for row in rows:
                if row != number and all(part >= old for part, old in zip(row, number)):
                    self.assertFalse(lower_faults(web, k, row))
                if row != number and all(part <= old for part, old in zip(row, number)):
                    for ranks in rank_rows(web.size, web.size)[::1 if web.size < 3 else 7]:
                        self.assertFalse(upper_faults(web, k, row, ranks))

    def test_dues_above_the_number(self):
        for web, k, _ in cases():
            number = number_row(web, k)
            for v, due in enumerate(web.dues):
                here = plain.due_number(due, k)
                if here > number[v]:
                    for more in [None] + [("chips", x) for x in range(here + 1, k + 3)]:
                        self.assertEqual(number_row(with_due(web, v, more), k), number)

    def test_great_webs(self):
        for web in great_webs():
            row = number_row(web, 9)
            self.assertIs(is_exact(web, 9, row), True)
            self.assertEqual(falling(web, 9, row), plain.falling(web, 9, row))
            self.assertEqual(falling(web, 9, (3,) * 60), plain.falling(web, 9, (3,) * 60))
        self.assertEqual(falling(Web.line(3), GREAT, (0, 0, 0, 0)), ((0, 1, 2, None), (3,)))

    def test_refusals(self):
        for call in (falling, is_exact):
            self.each_fault(call, [Web.line(3), GREAT, (0, 0, GREAT + 1, 0)], [NO_WEBS, BOUNDS, ROWS])


class Papers(Refusals):
    PAPER = Paper(Web.line(3), 1, [0, 0, 1, 2], (0, 2, 1, 0))
    TEXT = "paper 1\nrow 0 0 1 2\nranks 0 2 1 0\n"

    def test_what_a_paper_tells(self):
        paper = self.PAPER
        self.assertTrue(paper.web == Web.line(3))
        self.assertEqual((paper.chips, paper.row, paper.ranks), (1, (0, 0, 1, 2), (0, 2, 1, 0)))
        self.assertEqual([paper.number(v) for v in range(4)], [0, 0, 1, 2])

    def test_a_paper_lives_on_its_own(self):
        row, ranks = [0, 0, 1, 2], [0, 2, 1, 0]
        paper = Paper(Web.line(3), 1, row, ranks)
        row[1] = ranks[1] = 1
        self.assertTrue(paper == self.PAPER)

    def test_judged(self):
        for web, k, rows in cases():
            for at, row in enumerate(rows[::4]):
                ranks = rank_rows(web.size, 2)[at % 3 ** web.size]
                paper = Paper(web, k, row, ranks)
                below, above = plain.lower_faults(web, k, row), plain.upper_faults(web, k, row, ranks)
                self.assertEqual((paper.below().faults, paper.above().faults), (below, above))
                self.assertEqual(paper.judged().faults, tuple(sorted(set(below + above))))

    def test_exact(self):
        for web, k, _ in cases():
            paper = Paper.exact(web, k)
            self.assertTrue(bool(paper.judged()))
            self.assertEqual(paper.row, plain.numbers(web, k))
            self.assertEqual(paper.ranks, plain.falling(web, k, paper.row)[0])
        for web in great_webs():
            self.assertTrue(Paper.exact(web, 4).judged())
        self.assertEqual(Paper.exact(Web.line(2), 5000).row, (0, 2500, 5001))

    def test_equality(self):
        line = Web.line(3)
        self.assertTrue(self.PAPER == Paper.exact(line, 1))
        self.assertFalse(self.PAPER != Paper.exact(line, 1))
        for other in (Paper(Web.line(3, 2), 1, (0, 0, 1, 2), (0, 2, 1, 0)), Paper(line, 2, (0, 0, 1, 2), (0, 2, 1, 0)),
                      Paper(line, 1, (0, 1, 1, 2), (0, 2, 1, 0)), Paper(line, 1, (0, 0, 1, 2), (0, 2, 1, 1)), None,
                      self.TEXT):
            self.assertFalse(self.PAPER == other)
            self.assertTrue(self.PAPER != other)

    def test_texts(self):
        self.assertEqual(paper_written(self.PAPER), self.TEXT)
        self.assertTrue(Paper.from_text(Web.line(3), self.TEXT) == self.PAPER)
        for web, k, rows in cases():
            for at, row in enumerate(rows[::5]):
                paper = Paper(web, k, row, [(at * v) % 4 * 10 ** (12 * v) for v in range(web.size)])
                text = paper_written(paper)
                told = [str(k), " ".join(map(str, row)), " ".join(map(str, paper.ranks))]
                self.assertEqual(text, "paper {}\nrow {}\nranks {}\n".format(*told))
                self.assertTrue(Paper.from_text(web, text) == paper)

    def test_great_texts(self):
        web = Web.line(59)
        many = 40000 - len(paper_written(Paper(web, GREAT, [GREAT + 1] * 60, [10 ** 620] * 59 + [1])))
        longest = Paper(web, GREAT, [GREAT + 1] * 60, [10 ** 620] * 59 + [10 ** many])
        self.assertEqual(len(paper_written(longest)), 40000)
        self.assertTrue(Paper.from_text(web, paper_written(longest)) == longest)
        longer = Paper(web, GREAT, [GREAT + 1] * 60, [10 ** 620] * 59 + [10 ** (many + 1)])
        self.assertEqual(len(paper_written(longer)), 40001)
        self.refused(TooMuch, Paper.from_text, web, paper_written(longer))

    def test_wrong_texts(self):
        text = self.TEXT
        for wrong in ("", "\n", text[:-1], text + "\n", " " + text, text.replace("\n", " \n"), text.replace("\n", "\r\n"),
                      text.replace("paper 1", "paper"), text.replace("paper 1", "paper 1 1"),
                      text.replace("paper 1", "paper 01"), text.replace("paper 1", "paper -1"),
                      text.replace("paper 1", "paper  1"), text.replace("paper 1", "paper 0"),
                      text.replace("paper 1", "Paper 1"), text.replace("paper 1", "web 1"),
                      text.replace("paper 1", "paper " + str(GREAT + 1)), text.replace("paper 1", "paper " + "9" * 5000),
                      text.replace("row", "rows"), text.replace("0 0 1 2", "0 0 1"), text.replace("0 0 1 2", "0 0 1 2 0"),
                      text.replace("0 0 1 2", "0 0 1 3"), text.replace("0 0 1 2", "0 0 x 2"),
                      text.replace("0 0 1 2", "0 0 1 -2"), text.replace("0 0 1 2", "0 0  1 2"),
                      text.replace("0 2 1 0", "0 2 1"), text.replace("0 2 1 0", "0 2 1 0 0"),
                      text.replace("0 2 1 0", "0 2 1 -0"), text.replace("0 2 1 0", "0 +2 1 0"),
                      text.replace("0 2 1 0", "0 2_0 1 0"), text.replace("ranks", "row"), text + text,
                      "paper 1\nrow\nranks\n", "web 1\n0 1 - end\n", "1" * 40000):
            with self.subTest(text=wrong):
                self.assertNotEqual(wrong, text)
                self.refused(WrongText, Paper.from_text, Web.line(3), wrong)
        self.refused(WrongText, Paper.from_text, Web.line(2), text)

    def test_refusals(self):
        web = Web.line(3)
        self.each_fault(Paper, [web, GREAT, (0, 0, GREAT + 1, 0), [0, 10 ** 50, 0, 1]], [NO_WEBS, BOUNDS, ROWS, RANKS])
        self.each_fault(Paper.exact, [web, 3], [NO_WEBS, NO_INTEGERS + numbers(-1) + too_much(5001, 10 ** 50)])
        self.each_fault(Paper.from_text, [web, self.TEXT], [NO_WEBS, NO_TEXTS + [("1" * 40001, "f")]])
        self.each_fault(self.PAPER.number, [1], [NO_INTEGERS + numbers(-1, 4, 10 ** 50)])
        for bad in (None, 5, self.TEXT, web, Paper):
            self.refused(WrongKind, paper_written, bad)


if __name__ == "__main__":
    unittest.main()
