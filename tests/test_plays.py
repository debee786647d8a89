"""[19], [31], [61], [62] and [66]: states, deeds, copies, and going on by plans."""

import copy
import unittest

from pursewebs.errors import TooMuch, WrongDeed, WrongKind, WrongNumber, WrongWeb
from pursewebs.falling import falling
from pursewebs.plans import FirstPlan, Plan, SecondPlan
from pursewebs.play import Play, play_on
from pursewebs.rounds import number_row
from pursewebs.state import can_claim, next_state, settled
from pursewebs.web import Web
from tests import plain
from tests.refusals import NO_INTEGERS, NO_WEBS, Refusals, numbers, too_much

GREAT = 10 ** 40
WEB = Web([[], [], [0, 1], [1]], [[], [], [1, 0], [2, 1]], [1, 1, 1, 2], [("chips", 0), None, None, None])
BOUNDS = NO_INTEGERS + numbers(-1) + too_much(GREAT + 1)
STANDS = NO_INTEGERS + numbers(-1, 4, 10 ** 50)
PURSES = NO_INTEGERS + numbers(-1, GREAT + 2)


def webs():
    return list(plain.all_webs(1, [None, ("chips", 1), ("less", 1)])) + list(plain.some_webs(3, 60, 41)) + [
        Web.line(3), Web.line(3, 2), Web.ring(2), WEB]


class States(Refusals):
    def test_moves_by_words(self):
        for web in webs():
            k = 3
            for v, a in plain.states(web, k):
                for p in range(a + 1):
                    for q in range(k - a + 1):
                        gets = plain.first_gets(web, v, p, q)
                        steps = web.first[v] if gets else web.second[v]
                        for step in range(-1, web.size + 1):
                            if step in steps:
                                state = (step, a - p if gets else a + q)
                                self.assertEqual(next_state(web, k, v, a, p, q, step), state)
                            else:
                                self.refused(WrongDeed, next_state, web, k, v, a, p, q, step)

    def test_claims_and_ends(self):
        for web in webs():
            for k in (0, 2):
                for v, a in plain.states(web, k):
                    can = a >= plain.due_number(web.dues[v], k)
                    self.assertIs(can_claim(web, k, v, a), can)
                    self.assertEqual(settled(web, k, v, a), 0 if v in web.moving else 1 if can else 2)

    def test_many_chips(self):
        web = Web.line(59)
        self.assertEqual(next_state(web, GREAT, 58, GREAT, GREAT, 0, 59), (59, 0))
        self.assertEqual(next_state(web, GREAT, 58, 0, 0, GREAT, 57), (57, GREAT))
        self.assertEqual((can_claim(web, GREAT, 0, 0), settled(web, GREAT, 59, GREAT)), (True, 2))

    def test_refusals(self):
        p_faults, q_faults = NO_INTEGERS + numbers(-1, 4), NO_INTEGERS + numbers(-1, GREAT)
        self.each_fault(next_state, [WEB, GREAT, 2, 3, 3, 0, 1],
                        [NO_WEBS, BOUNDS, STANDS + [(0, "e"), (1, "e")], PURSES, p_faults, q_faults,
                         NO_INTEGERS + [(2, "e"), (3, "e"), (-1, "e"), (10 ** 50, "e")]])
        self.refused(WrongDeed, next_state, WEB, 3, 3, 1, 1, 0, 2)
        self.assertEqual(next_state(WEB, 3, 3, 1, 1, 1, 2), (2, 2))
        for call in (can_claim, settled):
            self.each_fault(call, [WEB, GREAT, 1, GREAT], [NO_WEBS, BOUNDS, STANDS, PURSES])


class Plays(Refusals):
    def test_a_new_play(self):
        play = Play(WEB, 3, 2, 1)
        self.assertTrue(play.web == WEB)
        self.assertEqual((play.chips, play.stand, play.purse, play.steps, play.moves), (3, 2, 1, 0, ()))
        self.assertEqual((play.claimed, play.over, play.winner, list(play)), (False, False, 0, [(2, 1)]))
        self.assertIs(type(play.moves), tuple)

    def test_where_a_play_is_over(self):
        for web in webs():
            for v, a in plain.states(web, 2):
                play = Play(web, 2, v, a)
                can = a >= plain.due_number(web.dues[v], 2)
                lost = v in web.ends and not can
                self.assertEqual((play.over, play.winner), (lost, 2 if lost else 0))
                if can:
                    self.assertIsNone(play.claim())
                    self.assertEqual((play.over, play.winner, play.claimed, list(play)), (True, 1, True, [(v, a)]))
                    self.assertEqual(play.back(), "claim")
                    self.assertTrue(play == Play(web, 2, v, a))
                else:
                    self.refused(WrongDeed, play.claim)

    def test_deeds(self):
        play = Play(Web.line(3), 3, 2, 1)
        self.assertEqual(play.move(0, 2, 3), (3, 3))
        self.assertEqual((play.over, play.winner, play.stand, play.purse), (True, 2, 3, 3))
        self.refused(WrongDeed, play.move, 0, 0, 2)
        self.refused(WrongDeed, play.claim)
        self.assertEqual(play.back(), (0, 2, 3))
        self.assertEqual([play.move(0, 0, 1), play.move(1, 1, 0)], [(1, 1), (0, 0)])
        self.assertEqual((play.over, play.winner, play.steps), (False, 0, 2))
        self.refused(WrongDeed, play.move, 0, 0, 1)
        play.claim()
        self.assertEqual((play.over, play.winner, play.moves), (True, 1, ((0, 0, 1), (1, 1, 0))))
        self.assertEqual(list(play), [(2, 1), (1, 1), (0, 0)])
        for call in (play.claim, lambda: play.move(0, 0, 1), lambda: play.move(0, 3, 1)):
            self.refused(WrongDeed, call)
        self.assertEqual([play.back(), play.back(), play.back()], ["claim", (1, 1, 0), (0, 0, 1)])
        self.refused(WrongDeed, play.back)
        self.assertTrue(play == Play(Web.line(3), 3, 2, 1))

    def test_a_claim_where_there_are_steps(self):
        web = Web([[0, 1], []], [[1], []], [1, 1], [("less", 1), None])
        play = Play(web, 3, 0, 3)
        self.assertEqual(play.move(0, 0, 0), (0, 3))
        play.claim()
        self.refused(WrongDeed, play.move, 0, 0, 0)
        self.refused(WrongNumber, play.move, 4, 0, 0)
        self.refused(WrongDeed, play.claim)
        self.assertEqual((play.over, play.winner, play.steps, play.stand), (True, 1, 1, 0))

    def test_equality(self):
        line = Web.line(3)
        play = played(line, (0, 0, 1))
        self.assertTrue(play == played(Web.line(3), (0, 0, 1)))
        self.assertFalse(play != played(Web.line(3), (0, 0, 1)))
        claimed = played(line, (0, 0, 1), (0, 0, 0))
        claimed.claim()
        for one, other in ((play, played(Web.line(3, 2), (0, 1, 1))), (play, Play(line, 3, 2, 1)), (play, None),
                           (Play(line, 3, 1, 1), Play(line, 4, 1, 1)), (play, played(line, (0, 1, 1))),
                           (Play(line, 3, 1, 1), Play(line, 3, 1, 2)), (play, Play(line, 3, 1, 1)), (play, [(2, 1), (1, 1)]),
                           (claimed, played(line, (0, 0, 1), (0, 0, 0))),
                           (played(line, (1, 0, 1)), played(line, (1, 1, 1)))):
            self.assertFalse(one == other)
            self.assertTrue(one != other)

    def test_copies(self):
        play = played(Web.line(3), (0, 0, 1))
        other = play.copy()
        self.assertTrue(other == play)
        play.move(0, 0, 0)
        play.claim()
        self.assertEqual((other.moves, other.claimed, list(other)), (((0, 0, 1),), False, [(2, 1), (1, 1)]))
        again = play.copy()
        self.assertTrue(again == play and again.over and again.winner == 1)
        again.back()
        again.back()
        self.assertTrue(again == other)
        self.assertTrue(play.claimed)

    def test_taking_back_gives_the_play_before(self):
        for web in webs():
            before = [Play(web, 3, 0, 2)]
            play = Play(web, 3, 0, 2)
            for j in range(4):
                stand, purse = play.stand, play.purse
                if stand not in web.moving:
                    break
                p, q = j % (purse + 1), (j + 1) % (4 - purse)
                steps = web.first[stand] if plain.first_gets(web, stand, p, q) else web.second[stand]
                play.move(p, q, steps[j % len(steps)])
                before.append(play.copy())
            while play.steps:
                self.assertTrue(play == before.pop())
                play.back()
            self.assertTrue(play == before.pop())

    def test_many_moves(self):
        play = Play(Web.ring(1), 2, 0, 1)
        for _ in range(5000):
            play.move(0, 0, 0)
        self.refused(TooMuch, play.move, 0, 0, 0)
        self.refused(WrongNumber, play.move, 2, 0, 0)
        self.refused(WrongDeed, play.move, 0, 0, 1)
        self.assertEqual((play.steps, len(list(play)), play.over), (5000, 5001, False))
        play.back()
        self.assertEqual(play.move(1, 0, 0), (0, 0))

    def test_refusals(self):
        self.each_fault(Play, [WEB, GREAT, 3, GREAT], [NO_WEBS, BOUNDS, STANDS, PURSES])
        self.each_fault(lambda p, q, step: Play(WEB, 3, 2, 1).move(p, q, step), [1, 0, 0],
                        [NO_INTEGERS + numbers(-1, 2, GREAT), NO_INTEGERS + numbers(-1, 3, GREAT),
                         NO_INTEGERS + [(2, "e"), (3, "e"), (-1, "e"), (10 ** 50, "e")]])
        over = Play(WEB, 3, 1, 1)
        self.refused(WrongKind, over.move, True, 9, 0)
        self.refused(WrongNumber, over.move, 2, 0, 0)
        self.refused(WrongNumber, over.move, 0, 3, 0)
        self.refused(WrongDeed, over.move, 0, 0, 0)

    def test_a_refused_deed_changes_nothing(self):
        play = played(Web.line(3), (0, 0, 1))
        before = play.copy()
        for args in ((2, 0, 0), (0, 3, 0), (-1, 0, 0), (0, 0, 3), (True, 0, 0), (0, 0, None), (0, 1, 3)):
            self.assertRaises(Exception, play.move, *args)
            self.assertTrue(play == before)
            self.assertEqual(list(play), [(2, 1), (1, 1)])
        self.assertRaises(WrongDeed, play.claim)
        self.assertTrue(play == before)


def played(web, *moves):
    play = Play(web, 3, 2, 1)
    for move in moves:
        play.move(*move)
    return play


def plain_going_on(play, first, second, most):
    """The words of [62], with the deeds as a list."""
    gone = copy.deepcopy(play)

    def claim():
        if gone.winner == 0 and (first.claims(gone.stand, gone.purse) or gone.stand in gone.web.ends):
            gone.claim()

    claim()
    made = 0
    while made < most and gone.winner == 0:
        p, one = first(gone.stand, gone.purse)
        q, two = second(gone.stand, gone.purse)
        gone.move(p, q, one if plain.first_gets(gone.web, gone.stand, p, q) else two)
        made += 1
        claim()
    return gone


def plans(web, k, row=None, ranks=None):
    row = number_row(web, k) if row is None else row
    ranks = falling(web, k, row)[0] if ranks is None else ranks
    return FirstPlan(web, k, row, [rank or 0 for rank in ranks]), SecondPlan(web, k, row)


class GoingOn(Refusals):
    def test_by_words(self):
        for web in webs():
            for k in (0, 3):
                for row, ranks in ((None, None), ((1,) * web.size, None), ((k,) * web.size, (2, 1, 0, 1)[:web.size])):
                    first, second = plans(web, k, row, ranks)
                    for v, a in plain.states(web, k):
                        for most in (0, 1, 7):
                            play = Play(web, k, v, a)
                            gone = play_on(play, first, second, most)
                            self.assertTrue(gone == plain_going_on(play, first, second, most))
                            self.assertTrue(play == Play(web, k, v, a))

    def test_the_plans_of_the_number_row(self):
        for web in webs():
            first, second = plans(web, 3)
            for v, a in plain.states(web, 3):
                gone = play_on(Play(web, 3, v, a), first, second, 60)
                if a >= first.row[v]:
                    self.assertEqual(gone.winner, 1)
                    self.assertLessEqual(gone.steps, first.steps_left(v, a))
                else:
                    self.assertNotEqual(gone.winner, 1)

    def test_cut_plays(self):
        for web in webs():
            first, second = plans(web, 3)
            for v, a in plain.states(web, 3)[::2]:
                whole = play_on(Play(web, 3, v, a), first, second, 6)
                for most in range(7):
                    part = play_on(Play(web, 3, v, a), first, second, most)
                    if part.steps == most or part.over:
                        self.assertTrue(play_on(part, first, second, 6 - part.steps) == whole)

    def test_claims_once_behind_the_last_move(self):
        first, second = plans(Web.line(2), 3)
        gone = play_on(Play(Web.line(2), 3, 1, 3), first, second, 1)
        self.assertEqual((gone.steps, gone.claimed, gone.winner), (1, True, 1))
        self.assertTrue(play_on(Play(Web.line(2), 3, 0, 0), first, second, 0).claimed)
        over = play_on(Play(Web.line(2), 3, 2, 3), first, second, 5)
        self.assertEqual((over.steps, over.claimed, over.winner), (0, False, 2))

    def test_a_plan_that_does_not_claim_goes_on(self):
        web = Web([[0, 1], []], [[0], []], [1, 1], [("chips", 0), ("chips", 0)])
        first, second = plans(web, 2, (0, 0), (1, 1))
        gone = play_on(Play(web, 2, 0, 1), first, second, 3)
        self.assertEqual((gone.moves[:1], gone.steps, gone.claimed), (((0, 0, 0),), 3, False))
        self.assertTrue(play_on(Play(web, 2, 1, 1), first, second, 3).claimed)

    def test_a_play_that_was_gone_on_with(self):
        first, second = plans(Web.line(3), 3)
        play = played(Web.line(3), (0, 0, 1))
        gone = play_on(play, first, second, 5000)
        self.assertEqual((gone.moves[:1], play.steps, list(gone)[:2]), (((0, 0, 1),), 1, [(2, 1), (1, 1)]))
        self.assertTrue(gone == plain_going_on(play, first, second, 5000))

    def test_too_many_moves(self):
        web = Web.ring(2)
        first, second = plans(web, 1)
        whole = play_on(Play(web, 1, 0, 0), first, second, 5000)
        self.assertEqual((whole.steps, whole.over), (5000, False))
        self.refused(TooMuch, lambda: play_on(whole, first, second, 1))
        self.assertTrue(play_on(whole, first, second, 0) == whole)
        part = play_on(Play(web, 1, 0, 0), first, second, 4000)
        self.refused(TooMuch, lambda: play_on(part, first, second, 1001))
        self.assertEqual(play_on(part, first, second, 1000).steps, 5000)

    def test_refusals(self):
        line = Web.line(3)
        first, second = plans(line, 3)
        play = Play(line, 3, 2, 1)
        other_web, other_k = plans(Web.line(3, 2), 3), plans(line, 4)
        no_first = [(bad, "a") for bad in (None, second, Plan(line, 3, (0,) * 4), FirstPlan, 5, play)]
        no_second = [(bad, "a") for bad in (None, first, Plan(line, 3, (0,) * 4), SecondPlan, 5, play)]
        good = [play, first, second, 2]
        wrong = [[(bad, WrongKind) for bad in (None, line, 5, Play, first)],
                 [(bad, WrongKind) for bad, _ in no_first] + [(other_web[0], WrongWeb), (other_k[0], WrongWeb)],
                 [(bad, WrongKind) for bad, _ in no_second] + [(other_web[1], WrongWeb), (other_k[1], WrongWeb)],
                 [(bad, WrongKind) for bad, _ in NO_INTEGERS] + [(-1, WrongNumber), (5001, TooMuch), (GREAT, TooMuch)]]
        rank = [WrongKind, WrongWeb, WrongNumber, TooMuch]
        for one in range(4):
            for bad, error in wrong[one]:
                args = good[:one] + [bad] + good[one + 1:]
                self.fails(error, args)
                for two in range(one):
                    for worse, second_error in wrong[two]:
                        both = args[:two] + [worse] + args[two + 1:]
                        self.fails(min(error, second_error, key=rank.index), both)
        self.assertTrue(play == Play(line, 3, 2, 1))
        equal_web = plans(Web.line(3), 3)
        self.assertTrue(play_on(play, equal_web[0], equal_web[1], 2) == play_on(play, first, second, 2))

    def fails(self, error, args):
        with self.assertRaises(Exception) as caught:
            play_on(*args)
        self.assertIs(type(caught.exception), error)
        self.assertTrue(caught.exception.args[0])


if __name__ == "__main__":
    unittest.main()
