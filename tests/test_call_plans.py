"""[145] to [147] and [149]: plans for coming back for ever, duels, levels by their plain meaning, and settling."""

import time
import unittest

from pursewebs.builders import chain
from pursewebs.calllisting import call_won
from pursewebs.callpaper import CallPaper
from pursewebs.callplans import CallFirst, CallSecond, call_duel
from pursewebs.errors import TooMuch, WrongNumber, WrongWeb
from pursewebs.forever import forever_row
from pursewebs.paper import Paper
from pursewebs.plans import FirstPlan, Plan, SecondPlan
from pursewebs.settle import settle_row
from pursewebs.visits import visit_rows
from pursewebs.web import Web
from tests import plain, plain_calls
from tests.refusals import NO_INTEGERS, NO_WEBS, Refusals, numbers, too_much
from tests.test_calls import CALLS, CHIPS, EVERY, cases, endless, some_calls, some_rows
from tests.test_plans import check_state_calls

GREAT = 10 ** 40
LINE = Web.line(3)
ZEROS = (0, 0, 0, 0)
STANDS = NO_INTEGERS + numbers(-1, 4, 10 ** 50)
PAPER = CallPaper(LINE, 1, [1], (0, 0, 1, 2), (0, 0, 1, 0), (0, 0, 2, 0))
NO_PAPERS = [(bad, "a") for bad in (None, 5, True, "paper", [], LINE, CallPaper, Paper(LINE, 1, ZEROS, ZEROS))]


def papers(many=15):
    """Papers of rows for ever, and of other rows."""
    for at, (web, k, calls) in enumerate(cases(many)):
        row = plain_calls.for_ever(web, k, calls)
        yield CallPaper(web, k, calls, row, plain_calls.ranks(web, k, calls, row)[0],
                        plain_calls.counts(web, k, calls, row)[0])
        for other in some_rows(web, k)[:4]:
            numbers_told = [(at + 3 * v * v) % 4 for v in range(web.size)]
            yield CallPaper(web, k, calls, other, numbers_told, numbers_told[::-1])


def half_papers():
    """Papers in which the row with its ranks is an upper half, or the row with its counts is a lower half."""
    for web, k, calls in cases(25):
        yield CallPaper.of(web, k, calls)
        if web.size <= 2 and k <= 2:
            for row in plain.rows(web.size, k + 1):
                for told in plain.rows(web.size, 2):
                    yield CallPaper(web, k, calls, row, told, told)
    for at, web in enumerate(endless(3, 20, 71)):
        yield CallPaper.of(web, at % 4, some_calls(web, at))


def behind(web, v, a, p, q, step, other_steps, hand):
    """The states behind the bids, where the hand takes step and the other hand any of its steps."""
    gets = 1 if plain.first_gets(web, v, p, q) else 2
    after = a - p if gets == 1 else a + q
    return [(w, after) for w in ([step] if gets == hand else other_steps)]


def first_behind(plan, v, a):
    """All states that the other hand can bring about at the first hand's plan."""
    p, step = plan(v, a)
    return [state for q in range(plan.chips - a + 1)
            for state in behind(plan.web, v, a, p, q, step, plan.web.second[v], 1)]


def second_behind(plan, v, a):
    q, step = plan(v, a)
    return [state for p in range(a + 1) for state in behind(plan.web, v, a, p, q, step, plan.web.first[v], 2)]


class First(Refusals):
    def test_by_words(self):
        for paper in papers():
            web, k, row = paper.web, paper.chips, paper.row
            plan = CallFirst(paper)
            self.assertTrue(plan.web == web)
            self.assertEqual((plan.chips, plan.row), (k, row))
            for v, a in plain.states(web, k):
                e = a - row[v]
                self.assertEqual(plan.spare(v, a), e)
                self.assertEqual(plan.falls(v, a), (k - e, paper.ranks[v]) if e >= 0 else None)
                if v in web.moving:
                    told = plain_calls.first_plan(web, k, paper.calls, row, paper.ranks, v, a)
                    self.assertEqual(plan(v, a), told)
            most = max(paper.ranks)
            for times in (1, 2, 10 ** 30):
                self.assertEqual(plan.due_by(times), (most + 1) * times + most * k)

    def test_what_the_plan_keeps(self):
        seen = 0
        for paper in half_papers():
            web, k = paper.web, paper.chips
            if plain_calls.above_faults(web, k, paper.calls, paper.row, paper.ranks):
                continue
            seen += 1
            plan = CallFirst(paper)
            for v, a in plain.states(web, k):
                if a >= paper.row[v] and v in web.moving:
                    self.check_moves(plan, paper, v, a)
                    for times in (1, 2, 3):
                        self.assertLessEqual(self.longest(plan, paper, v, a, times, {}), plan.due_by(times))
        self.assertGreater(seen, 150)

    def check_moves(self, plan, paper, v, a):
        for w, after in first_behind(plan, v, a):
            self.assertGreaterEqual(plan.spare(w, after), plan.spare(v, a))
            if v not in paper.calls:
                self.assertLess(plan.falls(w, after), plan.falls(v, a))
            if w not in paper.web.moving:
                self.assertGreaterEqual(after, plain_calls.due(paper.web, paper.chips, w))

    def longest(self, plan, paper, v, a, times, known):
        """The greatest number of moves until so many visits are made or an end, which is paid, is reached."""
        if v in paper.calls:
            times -= 1
        if times == 0 or v not in paper.web.moving:
            return 0
        if (v, a, times) not in known:
            known[v, a, times] = 1 + max(self.longest(plan, paper, w, after, times, known)
                                         for w, after in first_behind(plan, v, a))
        return known[v, a, times]

    def test_great_numbers(self):
        paper = CallPaper(LINE, GREAT, [2], (0, 5, GREAT, GREAT + 1), (0, 10 ** 50, 0, 0), ZEROS)
        plan = CallFirst(paper)
        for v, a in ((1, 0), (1, 5), (1, GREAT), (2, GREAT), (2, 7)):
            self.assertEqual(plan(v, a), plain_calls.first_plan(LINE, GREAT, (2,), paper.row, paper.ranks, v, a))
        self.assertEqual(plan.due_by(10 ** 60), (10 ** 50 + 1) * 10 ** 60 + 10 ** 90)
        self.assertEqual((plan.falls(1, GREAT), plan.falls(1, 4)), ((5, 10 ** 50), None))

    def test_refusals(self):
        self.each_fault(CallFirst, [PAPER], [NO_PAPERS])
        plan = CallFirst(PAPER)
        check_state_calls(self, plan, [plan.spare, plan.falls])
        self.each_fault(plan.due_by, [1], [NO_INTEGERS + numbers(0, -1, -(10 ** 50))])


class Second(Refusals):
    def test_by_words(self):
        for paper in papers():
            web, k, row = paper.web, paper.chips, paper.row
            plan = CallSecond(paper)
            self.assertTrue(plan.web == web)
            self.assertEqual((plan.chips, plan.row), (k, row))
            for v, a in plain.states(web, k):
                e = row[v] - 1 - a
                self.assertEqual(plan.spare(v, a), a - row[v])
                self.assertEqual(plan.falls(v, a), (k - e, paper.counts[v]) if e >= 0 else None)
                if v in web.moving:
                    told = plain_calls.second_plan(web, k, paper.calls, row, paper.counts, v, a)
                    self.assertEqual(plan(v, a), told)
            self.assertEqual(plan.visits_at_most(), max(paper.counts) * (k + 1))

    def test_what_the_plan_keeps(self):
        seen = 0
        for paper in half_papers():
            web, k = paper.web, paper.chips
            if plain_calls.below_faults(web, k, paper.calls, paper.row, paper.counts):
                continue
            seen += 1
            plan = CallSecond(paper)
            known = {}
            for v, a in plain.states(web, k):
                if a < paper.row[v]:
                    self.assertLessEqual(self.visits(plan, paper, v, a, known), plan.visits_at_most())
        self.assertGreater(seen, 150)

    def visits(self, plan, paper, v, a, known):
        """The greatest number of visits from a state below the row; what falls tells where one can come round."""
        if v not in paper.web.moving:
            self.assertLess(a, plain_calls.due(paper.web, paper.chips, v))
            return 0
        if (v, a) not in known:
            # A way round without a visit adds nothing, since what falls is less behind each visit.
            known[v, a] = 0
            found = []
            for w, after in second_behind(plan, v, a):
                self.assertLess(after, paper.row[w])
                if w in paper.web.moving:
                    self.assertLessEqual(plan.falls(w, after), plan.falls(v, a))
                    if v in paper.calls:
                        self.assertLess(plan.falls(w, after), plan.falls(v, a))
                found.append(self.visits(plan, paper, w, after, known))
            known[v, a] = max(found) + (1 if v in paper.calls else 0)
        return known[v, a]

    def test_great_numbers(self):
        paper = CallPaper(LINE, GREAT, [2], (0, 5, GREAT, GREAT + 1), ZEROS, (0, 10 ** 50, 1, 0))
        plan = CallSecond(paper)
        for v, a in ((1, 0), (1, 4), (1, 5), (2, GREAT - 1), (2, 7)):
            self.assertEqual(plan(v, a), plain_calls.second_plan(LINE, GREAT, (2,), paper.row, paper.counts, v, a))
        self.assertEqual((plan.visits_at_most(), plan.falls(1, 4)), (10 ** 50 * (GREAT + 1), (GREAT, 10 ** 50)))

    def test_refusals(self):
        self.each_fault(CallSecond, [PAPER], [NO_PAPERS])
        plan = CallSecond(PAPER)
        check_state_calls(self, plan, [plan.spare, plan.falls])

    def test_both_are_plans(self):
        for made in (CallFirst, CallSecond):
            self.assertTrue(issubclass(made, Plan) and not issubclass(made, (FirstPlan, SecondPlan)))
            self.assertTrue("__call__" in vars(made) and "falls" in vars(made))
            plan = made(PAPER)
            told = {(v, a): plan(v, a) for v in (1, 2) for a in (0, 1)}
            self.assertEqual({state: plan(*state) for state in reversed(list(told))}, told)


def duel(web, k, calls, v, a, most):
    """A play of both plans by the words of call_duel."""
    paper = CallPaper.of(web, k, calls)
    states = [(v, a)]
    while web.first[v] and len(states) <= most:
        p, first_step = plain_calls.first_plan(web, k, calls, paper.row, paper.ranks, v, a)
        q, second_step = plain_calls.second_plan(web, k, calls, paper.row, paper.counts, v, a)
        v, a = (first_step, a - p) if plain.first_gets(web, v, p, q) else (second_step, a + q)
        states.append((v, a))
    end = "going" if web.first[v] else "paid" if a >= plain_calls.due(web, k, v) else "lost"
    return sum(w in calls for w, _ in states), end, len(states) - 1


class Duels(Refusals):
    def test_by_words(self):
        seen = {}
        for at, (web, k, calls) in enumerate(cases(25)):
            for v, a in plain.states(web, k):
                for most in (0, 1, at % 7 + 2, 40):
                    found = call_duel(web, k, list(calls), v, a, most)
                    self.assertEqual(found, duel(web, k, calls, v, a, most))
                    seen[found[1]] = True
        self.assertEqual(sorted(seen), ["going", "lost", "paid"])

    def test_whose_goal_it_is(self):
        for web, k, calls in list(cases(20)) + [(web, at % 3, some_calls(web, at)) for at, web in enumerate(endless(3, 20, 72))]:
            paper = CallPaper.of(web, k, calls)
            first, second = CallFirst(paper), CallSecond(paper)
            for v, a in plain.states(web, k):
                visits, end, moves = call_duel(web, k, calls, v, a, 200)
                if a >= paper.row[v]:
                    self.assertNotEqual(end, "lost")
                    if end == "going":
                        self.assertTrue(all(visits >= j for j in range(1, 200) if first.due_by(j) <= moves))
                else:
                    self.assertNotEqual(end, "paid")
                    self.assertLessEqual(visits, second.visits_at_most())

    def test_ends(self):
        web = Web([[], [], [0, 1]], [[], [], [0, 1]], [1, 1, 1], [("chips", 1), ("less", 0), None])
        told = [call_duel(web, 2, [2], 0, a, 0) for a in (0, 1)] + [call_duel(web, 2, [2], 1, 2, 5000)]
        self.assertEqual(told, [(0, "lost", 0), (0, "paid", 0), (0, "lost", 0)])
        self.assertEqual(call_duel(web, 2, [2], 2, 2, 0), (1, "going", 0))

    def test_at_the_bound(self):
        begin = time.perf_counter()
        for web, calls in ((Web.ring(60), [7]), (EVERY, [1, 2]), (Web.line(59, 2), [30])):
            for purse in (0, 60):
                visits, _, moves = call_duel(web, 60, calls, 30, purse, 5000)
                self.assertTrue(0 <= visits <= 5001 and moves <= 5000)
        self.assertEqual(call_duel(Web.ring(60), 60, [7], 30, 0, 5000), (83, "going", 5000))
        self.assertLess(time.perf_counter() - begin, 30)

    def test_refusals(self):
        purses = NO_INTEGERS + numbers(-1, 61, 10 ** 50)
        moves = NO_INTEGERS + numbers(-1) + too_much(5001, 10 ** 50)
        self.each_fault(call_duel, [LINE, 60, [1], 3, 60, 5000],
                        [NO_WEBS, NO_INTEGERS + numbers(-1) + too_much(61), CALLS, STANDS, purses, moves])
        self.refused(WrongNumber, call_duel, LINE, 61, [0], 1, 62, 0)
        self.refused(WrongWeb, call_duel, LINE, 61, [0], 1, 61, 5001)
        self.refused(TooMuch, call_duel, LINE, 61, [1], 1, 61, 0)


class Levels(Refusals):
    def test_by_moves(self):
        """[147], bid by bid."""
        for web, k, calls in cases(12):
            found = plain_calls.visit_sets(web, k, calls)
            for times in [None] + list(range(len(found) + 2)) + [10 ** 30]:
                won = found[-1] if times is None else found[min(times, len(found) - 1)]
                told = tuple(tuple((v, a) in won for a in range(k + 1)) for v in range(web.size))
                listed = call_won(web, k, list(calls), times)
                self.assertEqual(listed, told)
                self.assertEqual([type(listed), type(listed[0])], [tuple, tuple])

    def test_they_go_with_the_rows(self):
        for at, web in enumerate(list(plain.some_webs(6, 12, 73)) + list(plain.some_webs(5, 12, 74)) + [Web.line(5, 2), chain(4)]):
            k, calls = 3 + at % 4, some_calls(web, at)
            rows = list(visit_rows(web, k, calls))
            for times, row in enumerate(rows):
                told = tuple(tuple(a >= part for a in range(k + 1)) for part in row)
                self.assertEqual(call_won(web, k, calls, times), told)
            self.assertEqual(call_won(web, k, calls), told)
            self.assertEqual(rows[-1], forever_row(web, k, calls))

    def test_refusals(self):
        times = [(bad, letter) for bad, letter in NO_INTEGERS if bad is not None] + numbers(-1, -(10 ** 50))
        chips = NO_INTEGERS + numbers(-1) + too_much(7, 10 ** 50)
        ways = [[], [0, 2], [1, 3], [], [], [], []]
        great = [(Web(ways, ways, [1] * 7, [None] * 7), "f")]
        self.each_fault(call_won, [LINE, 6, [1], 3], [NO_WEBS + great, chips, CALLS, times])
        self.each_fault(call_won, [LINE, 0, ()], [NO_WEBS + great, chips, CALLS])


class Settling(Refusals):
    def test_by_moves(self):
        """[149]: the first hand settles where the second hand does not reach so many visits for every number."""
        for web, k, calls in cases(15):
            reached = plain_calls.second_sets(web, k, calls)[-1]
            row = settle_row(web, k, list(calls))
            for v, a in plain.states(web, k):
                self.assertEqual((v, a) not in reached, a >= row[v])
            mirror = forever_row(~web, k, calls)
            self.assertEqual(row, tuple(k + 1 - number for number in mirror))

    def test_at_the_bound(self):
        self.assertEqual(settle_row(Web.ring(60, 2), 60, [0]), (61,) * 60)
        self.assertEqual(settle_row(Web.ring(60, 2), 60, []), (0,) * 60)

    def test_refusals(self):
        self.each_fault(settle_row, [LINE, 60, [2, 1]], [NO_WEBS, CHIPS, CALLS])


if __name__ == "__main__":
    unittest.main()
