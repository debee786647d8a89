"""The tables of show.py, and the reasons and hints of advice.py."""

import time
import unittest

from pursewebs.advice import hint, reasons
from pursewebs.builders import chain, with_due
from pursewebs.duels import duel
from pursewebs.errors import TooMuch, WrongDeed, WrongNumber, WrongWeb
from pursewebs.play import Play
from pursewebs.rounds import number_row
from pursewebs.sharerows import share_row
from pursewebs.show import number_table, play_table, share_table
from pursewebs.web import Web
from tests import plain, plain_tables
from tests.refusals import NO_INTEGERS, NO_WEBS, Refusals, numbers, too_much
from tests.test_plans import plain_first, plain_second

GREAT = 10 ** 40
LINE = Web.line(3)
STANDS = NO_INTEGERS + numbers(-1, 4, 10 ** 50)
MOVING = STANDS + [(0, "d"), (3, "d")]


def cases(many=25):
    webs = [web for size in (1, 2, 3, 4) for web in plain.some_webs(size, many, 290 + size)]
    for at, web in enumerate(webs + [LINE, Web.line(3, 2), chain(2)]):
        yield web, at % 5


def read(text):
    """The columns of a table by its headings; each line is as wide as every other."""
    lines = text.split("\n")
    assert lines[-1] == "" and len({len(line) for line in lines[:-1]}) == 1
    return [line.split() for line in lines[:-1]]


def aligned(rows):
    """The table of these rows of words, by the words of show.py."""
    widths = [max(len(row[at]) for row in rows) for at in range(len(rows[0]))]
    return "".join(" ".join(" " * (widths[at] - len(word)) + word for at, word in enumerate(row)) + "\n" for row in rows)


class Show(Refusals):
    def test_numbers(self):
        for web, k in cases():
            row = plain_tables.number_row(web, k)
            ranks = plain.falling(web, k, row)[0]
            rows = [["stand", "due", "mark", "number", "rank"]]
            for v, due in enumerate(web.dues):
                word = "-" if due is None else f"{due[0][0]}{due[1]}"
                rows.append([str(v), word, str(web.marks[v]), str(row[v]), str(ranks[v])])
            self.assertEqual(number_table(web, k), aligned(rows))
            self.assertEqual(read(number_table(web, k)), rows)

    def test_wide_columns(self):
        web = with_due(Web.line(12), 3, ("less", GREAT))
        text = number_table(web, 5000)
        row = number_row(web, 5000)
        self.assertEqual([part[3] for part in read(text)[1:]], [str(number) for number in row])
        self.assertIn(f"    3 l{GREAT}    1", text)
        self.assertTrue(text.startswith("stand " + " " * 39 + "due mark number rank\n    0 " + " " * 40 + "c0    1      0    0\n"))
        self.assertEqual(number_table(Web([[]], [[]], [2], [None]), 0),
                         "stand due mark number rank\n    0   -    2      1    0\n")

    def test_shares(self):
        for web, _ in cases(12):
            rows = [["stand", "share"]] + [[str(v), str(share)] for v, share in enumerate(share_row(web))]
            self.assertEqual(share_table(web), aligned(rows))
        self.assertEqual(share_table(LINE), "stand share\n    0   0/1\n    1   1/3\n    2   2/3\n    3   1/1\n")
        shares = read(share_table(chain(6)))
        self.assertEqual(shares[-1], ["7", "63/64"])

    def test_plays(self):
        self.assertEqual(play_table(Play(LINE, 3, 2, 1)), "move p q hand step stand purse\n")
        play = Play(Web.line(3, 2), 1000, 2, 1000)
        play.move(10, 0, 1)
        play.move(0, 0, 2)
        play.move(0, 10, 3)
        self.assertEqual(play_table(play), "move  p  q hand step stand purse\n   1 10  0    1    1     1   990\n"
                                           "   2  0  0    2    2     2   990\n   3  0 10    2    3     3  1000\n")
        for web, k in cases(10):
            for v, a in plain.states(web, k):
                play = duel(web, k, v, a)
                rows, state = [["move", "p", "q", "hand", "step", "stand", "purse"]], (v, a)
                for at, (p, q, step) in enumerate(play.moves):
                    gets = plain.first_gets(web, state[0], p, q)
                    state = (step, state[1] - p if gets else state[1] + q)
                    rows.append([str(part) for part in (at + 1, p, q, 1 if gets else 2, step, *state)])
                self.assertEqual(play_table(play), aligned(rows))

    def test_refusals(self):
        self.each_fault(number_table, [LINE, 5000], [NO_WEBS, NO_INTEGERS + numbers(-1) + too_much(5001, GREAT)])
        great = [(web, "f") for web in (Web.line(59), chain(7), with_due(LINE, 1, ("less", 10)))]
        self.each_fault(share_table, [LINE], [NO_WEBS + great])
        self.each_fault(play_table, [Play(LINE, 3, 2, 1)], [[(bad, "a") for bad in (None, 5, True, LINE, [], Play, "play")]])


def good_for(web, row, hand, v, a, p, q):
    return plain.good_for_first(web, row, v, a, p, q) == (hand == 1)


class Advice(Refusals):
    def test_reasons(self):
        seen = {}
        for web, k in cases():
            row = plain_tables.number_row(web, k)
            ranks = plain.falling(web, k, row)[0]
            for v, a in plain.states(web, k):
                if v in web.moving:
                    hand = 1 if a >= row[v] else 2
                    deed = plain_first(web, k, row, ranks, v, a) if hand == 1 else plain_second(web, k, row, v, a)
                    spare = a - row[v] if hand == 1 else row[v] - 1 - a
                    told = (hand, *deed, plain.low(web, row, v), plain.high(web, row, v), spare)
                    self.assertEqual(reasons(web, k, v, a), told)
                    seen[hand, web.marks[v], ranks[v] == 0] = True
        self.assertEqual(len(seen), 8)

    def test_hints(self):
        """By trying all bids of the other hand."""
        seen = {}
        for web, k in cases():
            row = plain_tables.number_row(web, k)
            for v, a in plain.states(web, k):
                if v not in web.moving:
                    continue
                hand = 1 if a >= row[v] else 2
                mine, other = (a, k - a) if hand == 1 else (k - a, a)
                for bid in range(mine + 1):
                    pairs = [(bid, x) if hand == 1 else (x, bid) for x in range(other + 1)]
                    costs = [x for x, (p, q) in enumerate(pairs) if good_for(web, row, 3 - hand, v, a, p, q)]
                    told = ("costs", min(costs)) if costs else ("serves", None)
                    self.assertEqual(hint(web, k, v, a, hand, bid), told)
                    seen[told[0], hand, web.marks[v]] = True
                self.refused(WrongDeed, hint, web, k, v, a, 3 - hand, 0)
        self.assertEqual(len(seen), 8)

    def test_at_the_bound(self):
        begin = time.perf_counter()
        for web in (Web.line(59), Web.line(59, 2)):
            row = number_row(web, 5000)
            for purse in (row[30], row[30] - 1):
                told = reasons(web, 5000, 30, purse)
                self.assertEqual((told[0], told[5]), (1 if purse >= row[30] else 2, 0))
                self.assertEqual(hint(web, 5000, 30, purse, told[0], told[1]), ("serves", None))
        self.assertLess(time.perf_counter() - begin, 60)

    def test_refusals(self):
        chips = NO_INTEGERS + numbers(-1) + too_much(5001, 10 ** 50)
        purses = NO_INTEGERS + numbers(-1, 10 ** 60)
        self.each_fault(reasons, [LINE, 5000, 1, 3000], [NO_WEBS, chips, MOVING, purses])
        hands = NO_INTEGERS + numbers(0, 3, -1, 10 ** 50)
        chips = NO_INTEGERS + numbers(-1) + too_much(10 ** 50, 5001)
        self.each_fault(hint, [LINE, 5000, 1, 3000, 1, 3000],
                        [NO_WEBS, chips, MOVING, NO_INTEGERS + numbers(-1, 10 ** 60), hands + [(2, "c")],
                         NO_INTEGERS + numbers(-1, 3001, 10 ** 60)])
        self.each_fault(hint, [LINE, 5000, 1, 1000, 2, 4000],
                        [NO_WEBS, chips, MOVING, NO_INTEGERS + numbers(-1, 1001, 10 ** 60), hands + [(1, "c")],
                         NO_INTEGERS + numbers(-1, 4001, 10 ** 60)])
        # Whose the state is, is looked at behind TooMuch.
        self.refused(TooMuch, hint, LINE, 5001, 1, 0, 1, 0)
        self.refused(WrongDeed, hint, LINE, 5000, 1, 0, 1, 0)
        self.refused(WrongDeed, hint, LINE, 5000, 1, 5000, 2, 0)
        self.refused(WrongWeb, hint, LINE, 5001, 0, 5000, 2, 0)
        self.refused(WrongNumber, hint, LINE, 5001, 0, 5000, 2, 2)


if __name__ == "__main__":
    unittest.main()
