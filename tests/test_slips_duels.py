"""[62], [64] and [65]: slips, what bids and steps are worth, duels, and plays against foreign lists."""

import unittest
from itertools import product

from pursewebs.builders import chain
from pursewebs.duels import duel, foreign
from pursewebs.errors import TooMuch, WrongDeed, WrongKind, WrongNumber
from pursewebs.falling import falling
from pursewebs.plans import FirstPlan
from pursewebs.play import Play
from pursewebs.slips import slip_kind, slips
from pursewebs.web import Web
from tests import plain, plain_tables
from tests.refusals import NO_INTEGERS, NO_LISTS, NO_ROWS, NO_WEBS, Refusals, numbers, too_much
from tests.test_plans import plain_first, plain_second

GREAT = 10 ** 40
WEB = Web([[], [], [0, 1], [1]], [[], [], [1, 0], [2, 1]], [1, 1, 1, 2], [("chips", 0), None, None, None])
STANDS = NO_INTEGERS + numbers(-1, 4, 10 ** 50)
EVERY = Web([list(range(60))] * 60, [list(range(60))] * 60, [1, 2] * 30, [("chips", 3)] + [None] * 59)


def webs():
    return list(plain.some_webs(3, 50, 61)) + list(plain.some_webs(4, 15, 62)) + [
        Web.line(3), Web.line(3, 2), Web.ring(2), WEB]


def split_webs():
    """Webs in which the hands are far apart, or each hand has to move where the other one wants to be."""
    ends = [("chips", 0), None]
    crossed = [Web([[], [], [1]], [[], [], [0]], [1, 1, mark], ends + [None]) for mark in (1, 2)]
    ways = [[], [], [0, 3], [1, 2]]
    chips = [("chips", 3), ("less", 1)]
    return crossed + [Web([[], [], [1], [0, 2]], [[], [], [0, 3], [2]], [1, 1, mark, 3 - mark], chips + [None] * 2)
                      for mark in (1, 2)] + [Web(ways, ways, [mark] * 4, ends + [None] * 2) for mark in (1, 2)]


def owner(row, state):
    return 1 if state[1] >= row[state[0]] else 2


def bids_and_steps(web, k, v, a, hand):
    chips, steps = (a, web.first[v]) if hand == 1 else (k - a, web.second[v])
    return list(product(range(chips + 1), steps))


def plain_kind(web, k, row, v, a, hand, bid, step):
    """The words of [64] at a state of the hand."""
    serving = plain.first_serving(web, k, row, v, a) if hand == 1 else plain.second_serving(web, k, row, v, a)
    if bid not in serving:
        return "bid"
    if hand == 1:
        gets = any(plain.first_gets(web, v, bid, q) for q in range(k - a + 1))
    else:
        gets = any(not plain.first_gets(web, v, p, bid) for p in range(a + 1))
    behind = (step, a - bid if hand == 1 else a + bid)
    return "step" if gets and owner(row, behind) != hand else "serves"


class Slips(Refusals):
    def test_kinds_by_words(self):
        seen = {}
        cases = [(web, at % 4, plain.numbers(web, at % 4)) for at, web in enumerate(webs())]
        cases += [(web, k, plain_tables.number_row(web, k)) for k in range(7, 10)
                  for web in webs()[k % 5::5] + split_webs()]
        for web, k, row in cases:
            for v, a in plain.states(web, k):
                if v not in web.moving:
                    continue
                hand = owner(row, (v, a))
                for bid, step in bids_and_steps(web, k, v, a, hand):
                    told = plain_kind(web, k, row, v, a, hand, bid, step)
                    self.assertEqual(slip_kind(web, k, v, a, hand, bid, step), told)
                    seen[(web.marks[v], hand, bid > 0, told)] = True
        self.assertGreaterEqual(len(seen), 20)

    def test_moves_by_words(self):
        """[64], [65]: a move is a slip as told, and whose bid and step serve makes no slip."""
        for at, web in enumerate(webs()):
            k = at % 4
            row = plain.numbers(web, k)
            for v, a in plain.states(web, k):
                if v not in web.moving:
                    continue
                hand = owner(row, (v, a))
                for p, one in bids_and_steps(web, k, v, a, 1)[::2]:
                    for q, two in bids_and_steps(web, k, v, a, 2)[::2]:
                        gets = plain.first_gets(web, v, p, q)
                        play = Play(web, k, v, a)
                        state = play.move(p, q, one if gets else two)
                        slip = owner(row, state) != hand
                        self.assertEqual(slips(play), ((1, hand),) if slip else ())
                        bid, step = (p, one) if hand == 1 else (q, two)
                        if slip_kind(web, k, v, a, hand, bid, step) == "serves":
                            self.assertFalse(slip)

    def test_all_moves_of_a_play(self):
        line = Web.line(3)
        play = Play(line, 3, 1, 1)
        play.move(1, 0, 0)
        self.assertEqual((slips(play), slips(Play(line, 3, 3, 3))), ((), ()))
        play = Play(Web.ring(2), 2, 0, 1)
        for move in ((1, 0, 1), (0, 2, 0), (2, 0, 1)):
            play.move(*move)
        self.assertEqual(slips(play), ())
        play = Play(line, 5, 1, 1)
        states = [play.move(1, 0, 2), play.move(0, 5, 1), play.move(5, 0, 2), play.move(0, 0, 1)]
        hands = [owner(plain.numbers(line, 5), state) for state in [(1, 1)] + states]
        told = tuple((j + 1, hand) for j, hand in enumerate(hands[:-1]) if hands[j + 1] != hand)
        self.assertEqual((slips(play), hands), (told, [2, 2, 1, 2, 2]))
        self.assertEqual(slips(play), ((2, 2), (3, 1)))
        self.assertEqual(slips(play), slips(play.copy()))

    def test_a_claim_is_no_slip(self):
        play = Play(Web.line(3), 3, 1, 1)
        play.move(0, 0, 0)
        play.claim()
        self.assertEqual(slips(play), ())

    def test_where_the_first_hand_can_claim_but_not_serve(self):
        web = Web([[1], []], [[1], []], [1, 1], [("chips", 2), None])
        self.assertEqual([slip_kind(web, 3, 0, 2, 1, bid, 1) for bid in range(3)], ["bid"] * 3)
        play = Play(web, 3, 0, 2)
        play.move(0, 1, 1)
        self.assertEqual(slips(play), ((1, 1),))

    def test_bounds(self):
        line = Web.line(2)
        play = Play(line, 5000, 1, 2500)
        play.move(2500, 0, 0)
        self.assertEqual(slips(play), ())
        self.assertEqual([slip_kind(line, 5000, 1, 2500, 1, bid, 0) for bid in (0, 2499, 2500)],
                         ["bid", "bid", "serves"])
        self.refused(TooMuch, slips, Play(line, 5001, 1, 2500))
        self.refused(TooMuch, slips, Play(line, GREAT, 1, 2500))

    def test_refusals(self):
        for bad in (None, 5, "play 1 0 0\n", Play, WEB, [(0, 0)]):
            self.refused(WrongKind, slips, bad)
        good = [WEB, 3, 3, 2, 2, 0, 1]
        steps = NO_INTEGERS + [(0, "g"), (3, "g"), (-1, "g"), (10 ** 50, "g")]
        self.each_fault(slip_kind, good, [
            NO_WEBS, NO_INTEGERS + numbers(-1) + too_much(5001, 10 ** 50), STANDS + [(0, "d"), (1, "d")],
            NO_INTEGERS + numbers(-1, 5002, 10 ** 51), NO_INTEGERS + numbers(0, 3, -1),
            NO_INTEGERS + numbers(-1, 10 ** 60), steps])
        self.refused(WrongNumber, slip_kind, WEB, 3, 3, 2, 2, 2, 1)
        self.refused(WrongNumber, slip_kind, WEB, 3, 3, 2, 1, 3, 1)
        self.refused(WrongDeed, slip_kind, WEB, 3, 3, 2, 1, 0, 1)
        self.refused(WrongDeed, slip_kind, Web.line(3), 1, 2, 0, 1, 0, 1)
        self.refused(WrongDeed, slip_kind, Web.line(3), 1, 2, 1, 2, 0, 1)
        self.refused(WrongDeed, slip_kind, Web.line(3), 1, 2, 1, 1, 0, 2)


def plain_play(web, k, v, a, deeds, claims, stop):
    """The words of [62]: deeds(j, v, a) gives both bids and steps, stop(moves, states) ends it."""
    states, moves = [(v, a)], []
    while True:
        v, a = states[-1]
        can = a >= plain.due_number(web.dues[v], k)
        if v in web.ends:
            return states, moves, can
        if claims(v, a):
            return states, moves, True
        if stop(moves, states):
            return states, moves, False
        p, one, q, two = deeds(len(moves), v, a)
        gets = plain.first_gets(web, v, p, q)
        moves.append((p, q, one if gets else two))
        states.append((one, a - p) if gets else (two, a + q))


def plain_duel(web, k, v, a):
    row = plain_tables.number_row(web, k)
    ranks = plain.falling(web, k, row)[0]

    def claims(v, a):
        return ranks[v] == 0 and a >= plain.due_number(web.dues[v], k)

    def deeds(_, v, a):
        return plain_first(web, k, row, ranks, v, a) + plain_second(web, k, row, v, a)

    return plain_play(web, k, v, a, deeds, claims, lambda moves, states: states[-1] in states[:-1])


def plain_foreign(web, k, v, a, side, bids, picks):
    row = plain_tables.number_row(web, k)
    ranks = plain.falling(web, k, row)[0]
    many = min(len(bids), len(picks))

    def claims(v, a):
        return side == 1 and ranks[v] == 0 and a >= plain.due_number(web.dues[v], k)

    def deeds(j, v, a):
        steps = sorted(web.second[v] if side == 1 else web.first[v])
        listed = (min(bids[j], k - a if side == 1 else a), steps[picks[j] % len(steps)])
        if side == 1:
            return plain_first(web, k, row, ranks, v, a) + listed
        return listed + plain_second(web, k, row, v, a)

    return plain_play(web, k, v, a, deeds, claims, lambda moves, states: len(moves) == many)


class Duels(Refusals):
    def same(self, play, told):
        states, moves, claimed = told
        self.assertEqual((list(play), play.moves, play.claimed), (states, tuple(moves), claimed))

    def test_duels_by_words(self):
        for at, web in enumerate(webs()):
            for k in (0, 1 + at % 4):
                row = plain.numbers(web, k)
                first = FirstPlan(web, k, row, falling(web, k, row)[0])
                for v, a in plain.states(web, k):
                    play = duel(web, k, v, a)
                    self.same(play, plain_duel(web, k, v, a))
                    self.assertEqual(slips(play), ())
                    if owner(row, (v, a)) == 1:
                        self.assertEqual(play.winner, 1)
                        self.assertLessEqual(play.steps, first.steps_left(v, a))
                    else:
                        states = list(play)
                        again = states[-1] in states[:-1]
                        self.assertTrue(play.winner == 2 or (again and play.winner == 0))
                        self.assertLessEqual(play.steps, web.size * (k + 1))

    def test_foreign_lists_by_words(self):
        lists = list(product((0, 1, 3), repeat=3))
        for at, web in enumerate(webs()):
            k = at % 4
            for v, a in plain.states(web, k):
                for side in (1, 2):
                    bids = lists[(at + 5 * v + a) % 27] + (10 ** 50,)
                    picks = lists[(7 * at + v + 3 * a) % 27] + (10 ** 50 + a,) * (v % 2)
                    play = foreign(web, k, v, a, side, bids, list(picks))
                    self.same(play, plain_foreign(web, k, v, a, side, bids, picks))

    def test_who_follows_its_plan_from_its_state(self):
        """[65]: it makes no slip, the other hand never wins, and what falls is less behind each move."""
        lists = list(product((0, 1, 2), repeat=3))
        for web in webs()[::5]:
            k = 2
            row = plain.numbers(web, k)
            first = FirstPlan(web, k, row, falling(web, k, row)[0])
            for v, a in plain.states(web, k):
                side = owner(row, (v, a))
                for bids in lists:
                    for picks in lists[::2]:
                        play = foreign(web, k, v, a, side, bids, picks)
                        self.assertNotEqual(play.winner, 3 - side)
                        self.assertNotIn(side, [hand for _, hand in slips(play)])
                        if side == 1:
                            falls = [first.falls(w, b) for w, b in play]
                            self.assertEqual(falls, sorted(set(falls), reverse=True))

    def test_who_serves_makes_no_slip(self):
        """[64], [65]: against every bid and step of the other hand a bid and a step that serve keep the state."""
        for at, web in enumerate(webs()[::2]):
            k = at % 3
            row = plain.numbers(web, k)
            for v, a in plain.states(web, k):
                hand = owner(row, (v, a))
                for bid, step in bids_and_steps(web, k, v, a, hand) if v in web.moving else []:
                    kept = slip_kind(web, k, v, a, hand, bid, step) == "serves"
                    for other, other_step in bids_and_steps(web, k, v, a, 3 - hand):
                        p, q = (bid, other) if hand == 1 else (other, bid)
                        own = plain.first_gets(web, v, p, q) == (hand == 1)
                        behind = (step if own else other_step, a - p if plain.first_gets(web, v, p, q) else a + q)
                        if kept:
                            self.assertEqual(owner(row, behind), hand)

    def test_claims_without_moves(self):
        line = Web.line(2)
        self.assertEqual([duel(line, 2, 0, 0).claimed, duel(line, 2, 2, 2).winner], [True, 2])
        for side in (1, 2):
            self.assertTrue(foreign(line, 2, 0, 1, side, [], [1, 2]).claimed)
            self.assertEqual(foreign(line, 2, 1, 1, side, [5], []).moves, ())
            self.assertEqual(foreign(line, 2, 2, 1, side, [5], [5]).winner, 2)

    def test_a_first_hand_by_lists_claims_at_ends_alone(self):
        web = Web([[0, 1], []], [[0, 1], []], [1, 1], [("chips", 1), None])
        play = foreign(web, 2, 0, 2, 2, [0, 0], [0, 0])
        self.assertEqual((play.steps, play.claimed, play.over), (2, False, False))
        self.assertEqual((foreign(web, 2, 0, 2, 1, [0], [0]).moves, duel(web, 2, 0, 1).claimed), ((), True))

    def test_many_moves(self):
        ring = Web.ring(1)
        play = foreign(ring, 1, 0, 0, 2, [0] * 5000, [0] * 6000)
        self.assertEqual((play.steps, play.over), (5000, False))
        self.refused(TooMuch, foreign, ring, 1, 0, 0, 2, [0] * 5001, [0] * 5001)
        self.assertEqual(foreign(Web.line(2), 1, 1, 1, 1, [0] * 6000, [0] * 6000).steps, 1)

    def test_bounds(self):
        for web in (Web.line(59), Web.line(59, 2), chain(58), Web.ring(60), EVERY):
            row = plain_tables.number_row(web, 80)
            for v in (0, 1, 30, web.size - 1):
                for a in {max(0, row[v] - 1), min(80, row[v]), 0, 80}:
                    play = duel(web, 80, v, a)
                    self.assertEqual(play.winner == 1, a >= row[v])
                    self.assertLessEqual(play.steps, web.size * 81)
                    self.assertEqual(foreign(web, 80, v, a, 1, [7, 0], [1, 3]).chips, 80)

    def test_refusals(self):
        bounds = NO_INTEGERS + numbers(-1) + too_much(81, 10 ** 50)
        purses = NO_INTEGERS + numbers(-1, 82, 10 ** 51)
        self.each_fault(duel, [WEB, 3, 2, 1], [NO_WEBS, bounds, STANDS, purses])
        lists = NO_LISTS + NO_ROWS + [([-1], "c"), ((0, -1, 10 ** 50), "c"), ([0, 0, 0, -(10 ** 50)], "c")]
        self.each_fault(foreign, [WEB, 3, 2, 1, 2, [1, 0], (0, 1)],
                        [NO_WEBS, bounds, STANDS, purses, NO_INTEGERS + numbers(0, 3, -1), lists, lists])


if __name__ == "__main__":
    unittest.main()
